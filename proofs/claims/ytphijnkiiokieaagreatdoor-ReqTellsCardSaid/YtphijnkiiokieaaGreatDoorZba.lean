/- Texts of one proof, joined. -/
import Derived.Test.YtphijnkiiokieaaGreatDoorZaz
set_option linter.unusedVariables false
set_option linter.unusedSimpArgs false
set_option maxRecDepth 100000
set_option maxHeartbeats 80000000
/- The document's own dates: what a text shows. -/
namespace Go.Proofs.YtphijnkiiokieaaGreatDoor.Day
open Go.RowKit
set_option linter.unusedVariables false
set_option maxRecDepth 100000
attribute [local go_sem ↓] Go.wp_at_zero Go.wp_at_succ
def stp (N k : Nat) (c : UInt8) (p : Int × Int × Int) : Int × Int × Int :=
  if isD c = true then
    (if (k : Int) < (N : Int) - 6 then (10 * p.1 + ((c.toNat : Int) - 48), p.2.1, p.2.2)
     else if (k : Int) = (N : Int) - 5 ∨ (k : Int) = (N : Int) - 4 then (p.1, 10 * p.2.1 + ((c.toNat : Int) - 48), p.2.2)
     else if (k : Int) ≥ (N : Int) - 2 then (p.1, p.2.1, 10 * p.2.2 + ((c.toNat : Int) - 48)) else p)
  else p
def fldK (N : Nat) (l : List UInt8) : Nat → Int × Int × Int
  | 0 => (0, 0, 0)
  | k + 1 => stp N k (l.getD k 0) (fldK N l k)
theorem stp_bd (N k : Nat) (c : UInt8) (p : Int × Int × Int) (B : Int) (h1 : 0 ≤ p.1 ∧ p.1 < B) (h2 : 0 ≤ p.2.1 ∧ p.2.1 < B) (h3 : 0 ≤ p.2.2 ∧ p.2.2 < B) :
    (0 ≤ (stp N k c p).1 ∧ (stp N k c p).1 < 10 * B) ∧ (0 ≤ (stp N k c p).2.1 ∧ (stp N k c p).2.1 < 10 * B) ∧ (0 ≤ (stp N k c p).2.2 ∧ (stp N k c p).2.2 < 10 * B) := by
  unfold stp
  split
  · next hd =>
    have hc : 48 ≤ (c.toNat : Int) ∧ (c.toNat : Int) ≤ 57 := by simpa [isD] using hd
    split
    · simp only; omega
    · split
      · simp only; omega
      · split
        · simp only; omega
        · omega
  · omega
theorem fld_bd (N : Nat) (l : List UInt8) (k : Nat) : (0 ≤ (fldK N l k).1 ∧ (fldK N l k).1 < 10 ^ k) ∧ (0 ≤ (fldK N l k).2.1 ∧ (fldK N l k).2.1 < 10 ^ k) ∧ (0 ≤ (fldK N l k).2.2 ∧ (fldK N l k).2.2 < 10 ^ k) := by
  induction k with
  | zero => simp [fldK]
  | succ k ih =>
    have := stp_bd N k (l.getD k 0) (fldK N l k) (10 ^ k) ih.1 ih.2.1 ih.2.2
    rw [Int.pow_succ, Int.mul_comm]
    exact this
theorem isD45 : isD 45 = false := by decide
theorem fld_show {y m d : Int} (h : mayB y m d = true) : fldK (showS y m d).size (showS y m d).data.toList (showS y m d).size = (y, m, d) := by
  have hz := show_size h
  have hs : (showS y m d).data.toList = showL y.toNat m.toNat d.toNat := by unfold showS; rw [if_pos h]
  obtain ⟨a1, a2, a3, a4, a5, a6⟩ := may_iff.1 h
  have a7 := (dim_bd y m).2
  rw [hs]
  have n1 := dg_nat m.toNat
  have n2 := dg_nat (m.toNat / 10)
  have n3 := dg_nat d.toNat
  have n4 := dg_nat (d.toNat / 10)
  by_cases hy : y = 0
  · rw [hz, if_pos hy]
    have e : showL y.toNat m.toNat d.toNat = [45, 45, dg (m.toNat / 10), dg m.toNat, 45, dg (d.toNat / 10), dg d.toNat] := by unfold showL headL; rw [if_pos (by omega)]; rfl
    rw [e]
    simp [fldK, stp, isD45, dg_d, n1, n2, n3, n4]
    omega
  · rw [hz, if_neg hy]
    have n5 := dg_nat y.toNat
    have n6 := dg_nat (y.toNat / 10)
    have n7 := dg_nat (y.toNat / 100)
    have n8 := dg_nat (y.toNat / 1000)
    have e : showL y.toNat m.toNat d.toNat = [dg (y.toNat / 1000), dg (y.toNat / 100), dg (y.toNat / 10), dg y.toNat, 45, dg (m.toNat / 10), dg m.toNat, 45, dg (d.toNat / 10), dg d.toNat] := by unfold showL headL; rw [if_neg (by omega)]; rfl
    rw [e]
    simp [fldK, stp, isD45, dg_d, n1, n2, n3, n4, n5, n6, n7, n8]
    omega
theorem prs_size {s : ByteArray} (h : prs s ≠ none) : s.size = 7 ∨ s.size = 10 := by
  rcases hp : prs s with _ | ⟨y, m, d⟩
  · exact absurd hp h
  · obtain ⟨h1, h2⟩ := prs_some hp
    have := show_size h1
    rw [h2] at this
    split at this <;> omega
/-- The document's reading and ours. -/
theorem prs_fld {s : ByteArray} (hs : s.size = 7 ∨ s.size = 10) (y m d : Int) (hf : fldK s.size s.data.toList s.size = (y, m, d)) : (showS y m d = s ∧ prs s = some (y, m, d)) ∨ (showS y m d ≠ s ∧ prs s = none) := by
  by_cases hc : showS y m d = s
  · left
    cases hm : mayB y m d
    · have : showS y m d = ⟨#[]⟩ := by unfold showS; rw [hm]; rfl
      rw [this] at hc
      rw [← hc] at hs
      rcases hs with hs | hs <;> cases hs
    · exact ⟨hc, by rw [← hc]; exact prs_show hm⟩
  · right
    refine ⟨hc, ?_⟩
    rcases hp : prs s with _ | ⟨y', m', d'⟩
    · rfl
    · obtain ⟨h1, h2⟩ := prs_some hp
      have := fld_show h1
      rw [h2, hf] at this
      cases this
      exact absurd h2 hc
section
variable {w0 wr : World} {B C : Nat} {y m d ty tm td : Int}
theorem Bx2.set0 (h : Bx2 w0 wr B C y m d ty tm td) (hBC : B ≠ C) (hC : w0.heap.size ≤ C) (a : Int) : Bx2 w0 (wr.setCell ⟨C, 0, none⟩ (.int .i64 a)) B C y m d a tm td :=
  ⟨h.one.far (p := ⟨C, 0, none⟩) hBC _, h.two.set_ 0 _, h.bel.setCell (p := ⟨C, 0, none⟩) hC _⟩
theorem Bx2.set1 (h : Bx2 w0 wr B C y m d ty tm td) (hBC : B ≠ C) (hC : w0.heap.size ≤ C) (a : Int) : Bx2 w0 (wr.setCell ⟨C, 1, none⟩ (.int .i64 a)) B C y m d ty a td :=
  ⟨h.one.far (p := ⟨C, 1, none⟩) hBC _, h.two.set_ 1 _, h.bel.setCell (p := ⟨C, 1, none⟩) hC _⟩
theorem Bx2.set2 (h : Bx2 w0 wr B C y m d ty tm td) (hBC : B ≠ C) (hC : w0.heap.size ≤ C) (a : Int) : Bx2 w0 (wr.setCell ⟨C, 2, none⟩ (.int .i64 a)) B C y m d ty tm a :=
  ⟨h.one.far (p := ⟨C, 2, none⟩) hBC _, h.two.set_ 2 _, h.bel.setCell (p := ⟨C, 2, none⟩) hC _⟩
theorem Bx2.one4 (h : Bx2 w0 wr B C y m d ty tm td) : wr.frozen? ⟨B, 0, none⟩ = false ∧ wr.frozen? ⟨B, 1, none⟩ = false ∧ wr.frozen? ⟨B, 2, none⟩ = false := ⟨h.one.frozen 0, h.one.frozen 1, h.one.frozen 2⟩
end
theorem rparse_out {cs : Array Value} (hc : cs.size = 3) {R : Ending → World → Prop} {a : Act} {w : World} {g : Nat} (h2 : a.tmps.getD 2 undef = .pointer (some ⟨g, 0, none⟩)) (hd : a.defers = []) (hg : Blk w g 130 cs)
    (hR : R (.returned (.tuple #[.agg cs, a.tmps.getD 3 undef])) w) : bodyPost Tryz.prog Tryz.f123 R .ret a w :=
  bodyPost_ret (results_cell1 (fn := Tryz.f123) rfl a.tmps Tryz.prog w g 130 cs (0, 0) _ h2 hg Tryz.underlying130 (by rw [hc]; rfl)) hd hR
set_option maxHeartbeats 1000000 in
theorem rparse_bad (s : ByteArray) (hs : s.size ≤ 64) (hz : ¬ (s.size = 7 ∨ s.size = 10)) (w : World) : Calls Tryz.prog 123 #[.string s] w fun e w' => e = .returned (.tuple #[dateV (prs s), errV (prs s)]) ∧ Below w.heap.size w w' := by
  have hp : prs s = none := by
    rcases hp : prs s with _ | x
    · rfl
    · exact absurd (prs_size (by rw [hp]; simp)) hz
  rw [hp]
  have h7 : ((s.size : Int) != 7) = true := by simp; omega
  have h10 : ((s.size : Int) != 10) = true := by simp; omega
  have hw : w.heap.size ≤ w.heap.size := Nat.le_refl _
  go_enter Tryz.func123, Tryz.ntmps123
  go_wp2
  exact bodyPost_ret (v := .tuple #[.agg #[.int .i64 0, .int .i64 0, .int .i64 0], .int .i64 1]) (by simp [results, Tryz.results123, go_sem]) rfl ⟨rfl, ((Below.refl _ _).alloc (Nat.le_refl _) _).alloc (by simp) _⟩
set_option maxHeartbeats 8000000 in
theorem rparse_ok (s : ByteArray) (N : Nat) (hN : s.size = N) (h710 : N = 7 ∨ N = 10) (w : World) : Calls Tryz.prog 123 #[.string s] w fun e w' => e = .returned (.tuple #[dateV (prs s), errV (prs s)]) ∧ Below w.heap.size w w' := by
  have HN := Zh hN
  have HZ := Zh h710
  have hn7 : 7 ≤ N := by omega
  have hn10 : N ≤ 10 := by omega
  have hc : ((N : Int) != 10 && (N : Int) != 7) = false := by rcases h710 with rfl | rfl <;> rfl
  have hX0 : Hid (Bx2 w ((w.alloc (.cells #[.int .i64 0, .int .i64 0, .int .i64 0] 130)).alloc (.cells #[.int .i64 0, .int .i64 0, .int .i64 0] 130)) w.heap.size (w.heap.size + 1) 0 0 0 0 0 0) :=
    Zh ⟨(Blk.new w 130 _).alloc _, by have := Blk.new (w.alloc (.cells #[.int .i64 0, .int .i64 0, .int .i64 0] 130)) 130 #[.int .i64 0, .int .i64 0, .int .i64 0]; simpa using this, ((Below.refl _ _).alloc (Nat.le_refl _) _).alloc (by simp) _⟩
  clear h710
  by_cases h10 : N = 10
  · have d10 : ((N : Int) != 10) = false := by subst h10; rfl
    have H10 := Zh h10
    clear h10
    go_enter Tryz.func123, Tryz.ntmps123
    go_wp2
    obtain ⟨B, hB⟩ : ∃ B, w.heap.size = B := ⟨_, rfl⟩
    have HB := Zh hB
    rw [hB] at hX0 ⊢
    clear hB
    go_loopw [5] (fun i wr => ∃ (k : Nat) (py pm pd : Int), k ≤ N ∧ i = .int .i64 (k : Int) ∧ fldK N s.data.toList k = (py, pm, pd) ∧ Bx2 w wr B (B + 1) 0 0 0 py pm pd) (fun i _ => N - (intOf i).toNat)
    case atStart => exact ⟨0, 0, 0, 0, Nat.zero_le _, rfl, rfl, hX0.out⟩
    case round =>
      obtain ⟨k, py, pm, pd, hk, rfl, hf, hx⟩ := hrel
      have HX := Zh hx
      obtain ⟨b0, b1, b2⟩ := hx.two3
      obtain ⟨f0, f1, f2⟩ := hx.two4
      have hbd := fld_bd N s.data.toList k
      rw [hf] at hbd
      have hp : (10 : Int) ^ k ≤ 10 ^ 10 := by exact_mod_cast Nat.pow_le_pow_right (by omega) (show k ≤ 10 by omega)
      simp only at hbd
      obtain ⟨⟨p1, p2⟩, ⟨p3, p4⟩, p5, p6⟩ := hbd
      have q2 : py ≤ 10000000000 := by omega
      have q4 : pm ≤ 10000000000 := by omega
      have q6 : pd ≤ 10000000000 := by omega
      clear hp p2 p4 p6 hx
      have HF := Zh hf
      clear hf
      by_cases hlt : k < N
      · have hks : k < s.size := by omega
        obtain ⟨c, hc'⟩ : ∃ c, s[k] = c := ⟨_, rfl⟩
        have hgd : s.data.toList.getD k 0 = c := by
          rw [← hc', List.getD_eq_getElem?_getD, List.getElem?_eq_getElem (by simpa using hks)]; rfl
        have HST := Zh (show fldK N s.data.toList (k + 1) = stp N k c (py, pm, pd) by show stp N k _ _ = _; rw [hgd, HF.out])
        have hc255 : (c.toNat : Int) ≤ 255 := by have := c.toNat_lt; omega
        have hBC := Zh (show B ≠ B + 1 by omega)
        have hC := Zh (show w.heap.size ≤ B + 1 by have := HB.out; omega)
        clear hgd
        by_cases c1 : (c.toNat : Int) < 48
        · have HD := Zh (show stp N k c (py, pm, pd) = (py, pm, pd) by unfold stp; rw [if_neg (by unfold isD; simp; omega)])
          have c1' : (c.toNat : Int) - 48 < 0 := by omega
          go_wp2
          exact ⟨⟨k + 1, py, pm, pd, by omega, by go_num, by rw [HST.out, HD.out], HX.out⟩, by simp [intOf]; omega⟩
        · by_cases c2 : (c.toNat : Int) > 57
          · have HD := Zh (show stp N k c (py, pm, pd) = (py, pm, pd) by unfold stp; rw [if_neg (by unfold isD; simp; omega)])
            have c2' : (c.toNat : Int) - 48 > 9 := by omega
            have c1' : ¬ (c.toNat : Int) - 48 < 0 := by omega
            go_wp2
            exact ⟨⟨k + 1, py, pm, pd, by omega, by go_num, by rw [HST.out, HD.out], HX.out⟩, by simp [intOf]; omega⟩
          · have hD : isD c = true := by unfold isD; simp; omega
            have HDD := Zh hD
            have c2' : ¬ (c.toNat : Int) - 48 > 9 := by omega
            have c1' : ¬ (c.toNat : Int) - 48 < 0 := by omega
            clear hD
            by_cases k1 : (k : Int) < (N : Int) - 6
            · have HD := Zh (show stp N k c (py, pm, pd) = (10 * py + ((c.toNat : Int) - 48), pm, pd) by unfold stp; rw [if_pos HDD.out, if_pos k1])
              go_wp2
              exact ⟨⟨k + 1, _, pm, pd, by omega, by go_num, by rw [HST.out, HD.out], HX.out.set0 hBC.out hC.out _⟩, by simp [intOf]; omega⟩
            · by_cases k2 : (k : Int) = (N : Int) - 5
              · have HD := Zh (show stp N k c (py, pm, pd) = (py, 10 * pm + ((c.toNat : Int) - 48), pd) by unfold stp; rw [if_pos HDD.out, if_neg k1, if_pos (.inl k2)])
                have k2' : ((k : Int) == (N : Int) - 5) = true := by simpa using k2
                have HK2 := Zh k2
                clear k2
                go_wp2
                exact ⟨⟨k + 1, py, _, pd, by have := HK2.out; omega, by go_num, by rw [HST.out, HD.out], HX.out.set1 hBC.out hC.out _⟩, by simp [intOf]; omega⟩
              · have k2' : ((k : Int) == (N : Int) - 5) = false := by simpa using k2
                by_cases k3 : (k : Int) = (N : Int) - 4
                · have HD := Zh (show stp N k c (py, pm, pd) = (py, 10 * pm + ((c.toNat : Int) - 48), pd) by unfold stp; rw [if_pos HDD.out, if_neg k1, if_pos (.inr k3)])
                  have k3' : ((k : Int) == (N : Int) - 4) = true := by simpa using k3
                  have HK2 := Zh k3
                  clear k3
                  go_wp2
                  exact ⟨⟨k + 1, py, _, pd, by have := HK2.out; omega, by go_num, by rw [HST.out, HD.out], HX.out.set1 hBC.out hC.out _⟩, by simp [intOf]; omega⟩
                · have k3' : ((k : Int) == (N : Int) - 4) = false := by simpa using k3
                  by_cases k4 : (N : Int) - 2 ≤ (k : Int)
                  · have HD := Zh (show stp N k c (py, pm, pd) = (py, pm, 10 * pd + ((c.toNat : Int) - 48)) by unfold stp; rw [if_pos HDD.out, if_neg k1, if_neg (by omega), if_pos k4])
                    go_wp2
                    exact ⟨⟨k + 1, py, pm, _, by omega, by go_num, by rw [HST.out, HD.out], HX.out.set2 hBC.out hC.out _⟩, by simp [intOf]; omega⟩
                  · have HD := Zh (show stp N k c (py, pm, pd) = (py, pm, pd) by unfold stp; rw [if_pos HDD.out, if_neg k1, if_neg (by omega), if_neg (by omega)])
                    go_wp2
                    exact ⟨⟨k + 1, py, pm, pd, by omega, by go_num, by rw [HST.out, HD.out], HX.out⟩, by simp [intOf]; omega⟩
      · have hkN : k = N := by omega
        have HP := prs_fld (s := s) (by rw [HN.out]; exact HZ.out) py pm pd (by rw [HN.out, ← HF.out, hkN])
        have HW := Zh (show w.heap.size ≤ B by rw [HB.out]; exact Nat.le_refl _)
        clear f0 f1 f2
        rcases HP with ⟨h1, h2⟩ | ⟨h1, h2⟩
        · have HP2 := Zh h2
          have HS := Zh h1
          clear h1 h2
          go_wp2_with (first
            | (go_at_call 137; refine (rshow_any _ _ _ _).mono ?_; rintro _ w5 ⟨rfl, hb⟩; rw [HS.out]; have HX5 := Zh (HX.out.step hb); obtain ⟨b0, b1, b2⟩ := HX5.out.two3; obtain ⟨c0, c1, c2⟩ := HX5.out.one3; obtain ⟨f0, f1, f2⟩ := HX5.out.one4; clear hb)
            | fail)
          (try simp only [Exit.inBlock, Exit.then])
          rw [HP2.out]
          refine rparse_out (cs := #[.int .i64 py, .int .i64 pm, .int .i64 pd]) (g := B) rfl rfl rfl ?_ ⟨rfl, ?_⟩
          · exact Blk3.put HX5.out.one _ _ _
          · exact Blk3.bel HX5.out.bel HW.out _ _ _
        · have HP2 := Zh h2
          have hne := ne_str h1
          obtain ⟨T, hT⟩ : ∃ T, showS py pm pd = T := ⟨_, rfl⟩
          rw [hT] at hne
          have HS := Zh hT
          clear h1 h2 hT
          go_wp2_with (first
            | (go_at_call 137; refine (rshow_any _ _ _ _).mono ?_; rintro _ w5 ⟨rfl, hb⟩; rw [HS.out]; have HX5 := Zh (HX.out.step hb); obtain ⟨b0, b1, b2⟩ := HX5.out.two3; obtain ⟨c0, c1, c2⟩ := HX5.out.one3; obtain ⟨f0, f1, f2⟩ := HX5.out.one4; clear hb)
            | fail)
          (try simp only [Exit.inBlock, Exit.then])
          rw [HP2.out]
          refine rparse_out (cs := #[.int .i64 0, .int .i64 0, .int .i64 0]) (g := B) rfl rfl rfl ?_ ⟨rfl, ?_⟩
          · exact Blk3.put HX5.out.one _ _ _
          · exact Blk3.bel HX5.out.bel HW.out _ _ _
  · have d10 : ((N : Int) != 10) = true := by simp; omega
    have d7 : ((N : Int) != 7) = false := by have := HZ.out; simp; omega
    have H10 := Zh h10
    clear h10
    go_enter Tryz.func123, Tryz.ntmps123
    go_wp2
    obtain ⟨B, hB⟩ : ∃ B, w.heap.size = B := ⟨_, rfl⟩
    have HB := Zh hB
    rw [hB] at hX0 ⊢
    clear hB
    go_loopw [5] (fun i wr => ∃ (k : Nat) (py pm pd : Int), k ≤ N ∧ i = .int .i64 (k : Int) ∧ fldK N s.data.toList k = (py, pm, pd) ∧ Bx2 w wr B (B + 1) 0 0 0 py pm pd) (fun i _ => N - (intOf i).toNat)
    case atStart => exact ⟨0, 0, 0, 0, Nat.zero_le _, rfl, rfl, hX0.out⟩
    case round =>
      obtain ⟨k, py, pm, pd, hk, rfl, hf, hx⟩ := hrel
      have HX := Zh hx
      obtain ⟨b0, b1, b2⟩ := hx.two3
      obtain ⟨f0, f1, f2⟩ := hx.two4
      have hbd := fld_bd N s.data.toList k
      rw [hf] at hbd
      have hp : (10 : Int) ^ k ≤ 10 ^ 10 := by exact_mod_cast Nat.pow_le_pow_right (by omega) (show k ≤ 10 by omega)
      simp only at hbd
      obtain ⟨⟨p1, p2⟩, ⟨p3, p4⟩, p5, p6⟩ := hbd
      have q2 : py ≤ 10000000000 := by omega
      have q4 : pm ≤ 10000000000 := by omega
      have q6 : pd ≤ 10000000000 := by omega
      clear hp p2 p4 p6 hx
      have HF := Zh hf
      clear hf
      by_cases hlt : k < N
      · have hks : k < s.size := by omega
        obtain ⟨c, hc'⟩ : ∃ c, s[k] = c := ⟨_, rfl⟩
        have hgd : s.data.toList.getD k 0 = c := by
          rw [← hc', List.getD_eq_getElem?_getD, List.getElem?_eq_getElem (by simpa using hks)]; rfl
        have HST := Zh (show fldK N s.data.toList (k + 1) = stp N k c (py, pm, pd) by show stp N k _ _ = _; rw [hgd, HF.out])
        have hc255 : (c.toNat : Int) ≤ 255 := by have := c.toNat_lt; omega
        have hBC := Zh (show B ≠ B + 1 by omega)
        have hC := Zh (show w.heap.size ≤ B + 1 by have := HB.out; omega)
        clear hgd
        by_cases c1 : (c.toNat : Int) < 48
        · have HD := Zh (show stp N k c (py, pm, pd) = (py, pm, pd) by unfold stp; rw [if_neg (by unfold isD; simp; omega)])
          have c1' : (c.toNat : Int) - 48 < 0 := by omega
          go_wp2
          exact ⟨⟨k + 1, py, pm, pd, by omega, by go_num, by rw [HST.out, HD.out], HX.out⟩, by simp [intOf]; omega⟩
        · by_cases c2 : (c.toNat : Int) > 57
          · have HD := Zh (show stp N k c (py, pm, pd) = (py, pm, pd) by unfold stp; rw [if_neg (by unfold isD; simp; omega)])
            have c2' : (c.toNat : Int) - 48 > 9 := by omega
            have c1' : ¬ (c.toNat : Int) - 48 < 0 := by omega
            go_wp2
            exact ⟨⟨k + 1, py, pm, pd, by omega, by go_num, by rw [HST.out, HD.out], HX.out⟩, by simp [intOf]; omega⟩
          · have hD : isD c = true := by unfold isD; simp; omega
            have HDD := Zh hD
            have c2' : ¬ (c.toNat : Int) - 48 > 9 := by omega
            have c1' : ¬ (c.toNat : Int) - 48 < 0 := by omega
            clear hD
            by_cases k1 : (k : Int) < (N : Int) - 6
            · have HD := Zh (show stp N k c (py, pm, pd) = (10 * py + ((c.toNat : Int) - 48), pm, pd) by unfold stp; rw [if_pos HDD.out, if_pos k1])
              go_wp2
              exact ⟨⟨k + 1, _, pm, pd, by omega, by go_num, by rw [HST.out, HD.out], HX.out.set0 hBC.out hC.out _⟩, by simp [intOf]; omega⟩
            · by_cases k2 : (k : Int) = (N : Int) - 5
              · have HD := Zh (show stp N k c (py, pm, pd) = (py, 10 * pm + ((c.toNat : Int) - 48), pd) by unfold stp; rw [if_pos HDD.out, if_neg k1, if_pos (.inl k2)])
                have k2' : ((k : Int) == (N : Int) - 5) = true := by simpa using k2
                have HK2 := Zh k2
                clear k2
                go_wp2
                exact ⟨⟨k + 1, py, _, pd, by have := HK2.out; omega, by go_num, by rw [HST.out, HD.out], HX.out.set1 hBC.out hC.out _⟩, by simp [intOf]; omega⟩
              · have k2' : ((k : Int) == (N : Int) - 5) = false := by simpa using k2
                by_cases k3 : (k : Int) = (N : Int) - 4
                · have HD := Zh (show stp N k c (py, pm, pd) = (py, 10 * pm + ((c.toNat : Int) - 48), pd) by unfold stp; rw [if_pos HDD.out, if_neg k1, if_pos (.inr k3)])
                  have k3' : ((k : Int) == (N : Int) - 4) = true := by simpa using k3
                  have HK2 := Zh k3
                  clear k3
                  go_wp2
                  exact ⟨⟨k + 1, py, _, pd, by have := HK2.out; omega, by go_num, by rw [HST.out, HD.out], HX.out.set1 hBC.out hC.out _⟩, by simp [intOf]; omega⟩
                · have k3' : ((k : Int) == (N : Int) - 4) = false := by simpa using k3
                  by_cases k4 : (N : Int) - 2 ≤ (k : Int)
                  · have HD := Zh (show stp N k c (py, pm, pd) = (py, pm, 10 * pd + ((c.toNat : Int) - 48)) by unfold stp; rw [if_pos HDD.out, if_neg k1, if_neg (by omega), if_pos k4])
                    go_wp2
                    exact ⟨⟨k + 1, py, pm, _, by omega, by go_num, by rw [HST.out, HD.out], HX.out.set2 hBC.out hC.out _⟩, by simp [intOf]; omega⟩
                  · have HD := Zh (show stp N k c (py, pm, pd) = (py, pm, pd) by unfold stp; rw [if_pos HDD.out, if_neg k1, if_neg (by omega), if_neg (by omega)])
                    go_wp2
                    exact ⟨⟨k + 1, py, pm, pd, by omega, by go_num, by rw [HST.out, HD.out], HX.out⟩, by simp [intOf]; omega⟩
      · have hkN : k = N := by omega
        have HP := prs_fld (s := s) (by rw [HN.out]; exact HZ.out) py pm pd (by rw [HN.out, ← HF.out, hkN])
        have HW := Zh (show w.heap.size ≤ B by rw [HB.out]; exact Nat.le_refl _)
        clear f0 f1 f2
        rcases HP with ⟨h1, h2⟩ | ⟨h1, h2⟩
        · have HP2 := Zh h2
          have HS := Zh h1
          clear h1 h2
          go_wp2_with (first
            | (go_at_call 137; refine (rshow_any _ _ _ _).mono ?_; rintro _ w5 ⟨rfl, hb⟩; rw [HS.out]; have HX5 := Zh (HX.out.step hb); obtain ⟨b0, b1, b2⟩ := HX5.out.two3; obtain ⟨c0, c1, c2⟩ := HX5.out.one3; obtain ⟨f0, f1, f2⟩ := HX5.out.one4; clear hb)
            | fail)
          (try simp only [Exit.inBlock, Exit.then])
          rw [HP2.out]
          refine rparse_out (cs := #[.int .i64 py, .int .i64 pm, .int .i64 pd]) (g := B) rfl rfl rfl ?_ ⟨rfl, ?_⟩
          · exact Blk3.put HX5.out.one _ _ _
          · exact Blk3.bel HX5.out.bel HW.out _ _ _
        · have HP2 := Zh h2
          have hne := ne_str h1
          obtain ⟨T, hT⟩ : ∃ T, showS py pm pd = T := ⟨_, rfl⟩
          rw [hT] at hne
          have HS := Zh hT
          clear h1 h2 hT
          go_wp2_with (first
            | (go_at_call 137; refine (rshow_any _ _ _ _).mono ?_; rintro _ w5 ⟨rfl, hb⟩; rw [HS.out]; have HX5 := Zh (HX.out.step hb); obtain ⟨b0, b1, b2⟩ := HX5.out.two3; obtain ⟨c0, c1, c2⟩ := HX5.out.one3; obtain ⟨f0, f1, f2⟩ := HX5.out.one4; clear hb)
            | fail)
          (try simp only [Exit.inBlock, Exit.then])
          rw [HP2.out]
          refine rparse_out (cs := #[.int .i64 0, .int .i64 0, .int .i64 0]) (g := B) rfl rfl rfl ?_ ⟨rfl, ?_⟩
          · exact Blk3.put HX5.out.one _ _ _
          · exact Blk3.bel HX5.out.bel HW.out _ _ _
theorem rparse_any (s : ByteArray) (hs : s.size ≤ 64) (w : World) : Calls Tryz.prog 123 #[.string s] w fun e w' => e = .returned (.tuple #[dateV (prs s), errV (prs s)]) ∧ Below w.heap.size w w' := by
  by_cases hz : s.size = 7 ∨ s.size = 10
  · exact rparse_ok s _ rfl hz w
  · exact rparse_bad s hs hz w
end Go.Proofs.YtphijnkiiokieaaGreatDoor.Day
