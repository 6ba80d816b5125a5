/- Lines of a contact: Parse. -/
import Derived.Test.YthknkglhppngoaaDoorFq
namespace Go.Proofs.YthknkglhppngoaaDoor
open Go.RowKit
open Go.Lib hiding intOf
set_option linter.unusedVariables false
set_option maxRecDepth 20000
attribute [local go_sem ↓] Go.wp_at_zero Go.wp_at_succ
theorem parse_out {cs : Array Value} (hc : cs.size = 3) {R : Ending → World → Prop} {a : Act} {w : World} {g : Nat} (h2 : a.tmps.getD 2 undef = .pointer (some ⟨g, 0, none⟩)) (hd : a.defers = []) (hg : Blk w g 23 cs)
    (hR : R (.returned (.tuple #[.agg cs, a.tmps.getD 3 undef])) w) : bodyPost Tryd.prog Tryd.f6 R .ret a w :=
  bodyPost_ret (Day.results_cell1 (fn := Tryd.f6) rfl a.tmps Tryd.prog w g 23 cs (0, 0) _ h2 hg Tryd.underlying23 (by rw [hc]; rfl)) hd hR
def noBefore (h v : ByteArray) (k : Int) : Prop := ∀ a b : Int, 1 ≤ a → a < k → 0 ≤ b → b ≤ 3 → fits h v a b = false
def noIn (h v : ByteArray) (k l : Int) : Prop := ∀ b : Int, 0 ≤ b → b < l → fits h v k b = false
theorem noIn.next {h v : ByteArray} {k l : Int} (a : noIn h v k l) (b : fits h v k l = false) : noIn h v k (l + 1) := fun x h1 h2 => by
  by_cases e : x = l
  · rw [e]; exact b
  · exact a x h1 (by omega)
theorem noBefore.next {h v : ByteArray} {k : Int} (a : noBefore h v k) (b : noIn h v k 4) : noBefore h v (k + 1) := fun x y h1 h2 h3 h4 => by
  by_cases e : x = k
  · rw [e]; exact b y h3 (by omega)
  · exact a x y h1 (by omega) h3 h4
structure Pw (w wr : World) : Prop where
  res : Blk wr w.heap.size 23 #[.int .i64 0, .int .i64 0, .string ⟨#[]⟩]
  bel : Below w.heap.size w wr
theorem Pw.alloc {w wr : World} (h : Pw w wr) (o : Obj) : Pw w (wr.alloc o) := ⟨h.res.alloc o, h.bel.alloc h.bel.size o⟩
theorem Pw.step {w wr w' : World} (h : Pw w wr) (hb : Below wr.heap.size wr w') : Pw w w' := ⟨h.res.below hb h.res.lt, h.bel.trans (hb.mono h.bel.size)⟩
theorem cut_sz (s : ByteArray) : (cutH s).size ≤ s.size ∧ (cutV s).size ≤ s.size := by
  have : s.data.toList.length = s.size := by simp
  unfold cutH cutV
  by_cases h : (58 : UInt8) ∈ s.data.toList
  · obtain ⟨a, b, e, ha⟩ := first_at _ _ h
    have hcut := cut_has a b 58 ha
    rw [← e] at hcut
    rw [hcut]
    rw [e] at this
    simp at this
    constructor
    · show a.toArray.size ≤ _; simp; omega
    · show b.toArray.size ≤ _; simp; omega
  · rw [cut_not _ _ h]
    constructor
    · show s.data.toList.toArray.size ≤ _; simp
    · show ([] : List UInt8).toArray.size ≤ _; simp
set_option maxHeartbeats 8000000 in
theorem fparse_any (s : ByteArray) (hs : s.size ≤ 1000000) (w : World) (hT : Tabs w) (hM : Mx w) (hD : Day.Tab w.heap.size w) : Calls Tryd.prog 6 #[.string s] w fun e w' => e = .returned (fldV (parseF s)) ∧ Below w.heap.size w w' := by
  have hlt := hM.lt
  have HT := Lib.hid hT
  have HD := Lib.hid hD
  have HMx := Lib.hid hM
  obtain ⟨m, hm⟩ := hM
  have hm2 : (w.alloc (.cells #[.int .i64 0, .int .i64 0, .string ⟨#[]⟩] 23)).cell? ⟨0, 0, none⟩ = some (.int .i64 m) := by
    have hb0 : Below w.heap.size w (w.alloc (.cells #[.int .i64 0, .int .i64 0, .string ⟨#[]⟩] 23)) := (Below.refl _ _).alloc (Nat.le_refl _) _
    simp only [World.cell?] at hm ⊢
    rw [hb0.block 0 hlt]; exact hm
  have hC := Tryd.strings_Cut s ⟨#[58]⟩ m _ (by omega) hm2
  obtain ⟨z1, z2⟩ := cut_sz s
  have hr0 : parseF s = if cutO s = true then findF (cutH s) (cutV s) else noF := rfl
  rw [show (⟨#[58]⟩ : ByteArray).data.toList = [58] from rfl] at hC
  have hC2 : Calls Tryd.prog 11 #[.string s, .string ⟨#[58]⟩] (w.alloc (.cells #[.int .i64 0, .int .i64 0, .string ⟨#[]⟩] 23)) fun e w' => e = .returned (.tuple #[.string (cutH s), .string (cutV s), .bool (cutO s)]) ∧ ∃ n, w' = (w.alloc (.cells #[.int .i64 0, .int .i64 0, .string ⟨#[]⟩] 23)).drewN n := hC
  obtain ⟨h, hh⟩ : ∃ h, cutH s = h := ⟨_, rfl⟩
  obtain ⟨v, hv⟩ : ∃ v, cutV s = v := ⟨_, rfl⟩
  obtain ⟨o, ho⟩ : ∃ o, cutO s = o := ⟨_, rfl⟩
  rw [hh, hv, ho] at hC2 hr0
  rw [hv] at z2
  obtain ⟨r, hr⟩ : ∃ r, parseF s = r := ⟨_, rfl⟩
  rw [hr] at hr0 ⊢
  have HR := Lib.hid hr0
  have HC := Lib.hid hC2
  have HV := Lib.hid (show v.size ≤ 1000000 by omega)
  have HP0 := Lib.hid (show ∀ n, Pw w ((w.alloc (.cells #[.int .i64 0, .int .i64 0, .string ⟨#[]⟩] 23)).drewN n) from fun n => ⟨(Blk.new w _ _).drewN n, below_drewN ((Below.refl _ _).alloc (Nat.le_refl _) _) n⟩)
  clear hm2 hr0 hr hC hC2 hh hv ho z1 z2 hm hT hD hlt hs
  cases o with
  | false =>
    have H0 := Lib.hid (show r = noF from HR.out)
    go_enter Tryd.func6, Tryd.ntmps6
    go_wp2_with (go_at_call 11; (with_reducible refine (HC.out).mono ?_); rintro e w1 ⟨rfl, n1, hw⟩; subst hw; have HP1 := Lib.hid (HP0.out n1); have b0 := HP1.out.res.cell 0; have b1 := HP1.out.res.cell 1; have b2 := HP1.out.res.cell 2; have g0 := HP1.out.res.frozen 0; have g1 := HP1.out.res.frozen 1; have g2 := HP1.out.res.frozen 2)
    (try simp only [Exit.inBlock, Exit.then])
    rw [H0.out]
    exact parse_out (cs := #[.int .i64 0, .int .i64 0, .string ⟨#[]⟩]) (g := w.heap.size) rfl rfl rfl (put3 HP1.out.res _ _ _) ⟨rfl, bel3 HP1.out.bel (Nat.le_refl _) _ _ _⟩
  | true =>
    have HR2 := Lib.hid (show r = findF h v from HR.out)
    clear HR
    go_enter Tryd.func6, Tryd.ntmps6
    go_wp2_with (go_at_call 11; (with_reducible refine (HC.out).mono ?_); rintro e w1 ⟨rfl, n1, hw⟩; subst hw; have HP1 := Lib.hid (HP0.out n1))
    go_loopw [7] (fun i wr => ∃ k : Nat, 1 ≤ k ∧ k ≤ 7 ∧ i = .int .i64 (k : Int) ∧ noBefore h v (k : Int) ∧ Pw w wr) (fun i _ => 7 - (intOf i).toNat)
    case atStart => exact ⟨1, by decide, by decide, rfl, fun a b h1 h2 _ _ => by omega, HP1.out⟩
    case round =>
      obtain ⟨k, hk1, hk7, rfl, hN, hP⟩ := hrel
      have HN := Lib.hid hN
      have HP := Lib.hid hP
      clear hN hP
      by_cases hk : k ≤ 6
      · have hkI : (k : Int) ≤ 6 := by omega
        go_wp2
        (try simp only [show decide ((k : Int) ≤ 6) = true from decide_eq_true hkI])
        go_loopw [8] (fun i wr => ∃ l : Nat, l ≤ 4 ∧ i = .int .i64 (l : Int) ∧ noIn h v (k : Int) (l : Int) ∧ Pw w wr) (fun i _ => 4 - (intOf i).toNat)
        case atStart => exact ⟨0, by decide, rfl, fun b h1 h2 => by omega, HP.out⟩
        case round =>
          obtain ⟨l, hl4, rfl, hI, hP⟩ := hrel
          have HI := Lib.hid hI
          have HQ := Lib.hid hP
          clear hI hP
          by_cases hl : l ≤ 3
          · have hf0 : fits h v (k : Int) (l : Int) = ((h.toList == (headW (k : Int) (l : Int)).toList) && mayF (k : Int) (l : Int) v) := rfl
            have HONE := Lib.hid (fun (e : fits h v (k : Int) (l : Int) = true) => find_one (h := h) (v := v) (k := (k : Int)) (l := (l : Int)) (by omega) (by omega) (by omega) (by omega) e)
            have HNX := Lib.hid (fun (e : fits h v (k : Int) (l : Int) = false) => HI.out.next e)
            have HH := Lib.hid (fun w => head_any (k : Int) (l : Int) w)
            have HMA := Lib.hid (fun wr (hb : Below w.heap.size w wr) => fmay_any (k : Int) (l : Int) v HV.out wr (tabs_on HT.out hb (tabs_size HT.out)) (HMx.out.keep hb HMx.out.lt) (Day.tab_on HD.out hb))
            obtain ⟨A, hA⟩ : ∃ A, headW (k : Int) (l : Int) = A := ⟨_, rfl⟩
            obtain ⟨M, hMay⟩ : ∃ M, mayF (k : Int) (l : Int) v = M := ⟨_, rfl⟩
            rw [hA] at HH hf0
            rw [hMay] at HMA hf0
            clear hA hMay
            cases hq : (h.toList == A.toList) with
            | false =>
              rw [hq] at hf0
              have HF := Lib.hid (show fits h v (k : Int) (l : Int) = false from hf0)
              have HZ := Lib.hid (HQ.out.alloc (.cells #[.int .i64 (k : Int), .int .i64 (l : Int), .string v] 23))
              clear hf0
              go_wp2_with (go_at_call 12; (with_reducible refine (HH.out _).mono ?_); rintro e w2 ⟨rfl, hw⟩; replace hw := hw.symm; subst hw)
              go_roundw
              case rel => exact ⟨l + 1, by omega, by go_num, by have := HNX.out HF.out; simpa using this, HZ.out⟩
              case measure => simp [intOf]; omega
            | true =>
              rw [hq] at hf0
              cases M with
              | false =>
                have HF := Lib.hid (show fits h v (k : Int) (l : Int) = false from hf0)
                clear hf0
                go_wp2_with (first
                  | (go_at_call 12; (with_reducible refine (HH.out _).mono ?_); rintro e w2 ⟨rfl, hw⟩; replace hw := hw.symm; subst hw)
                  | (go_at_call 8; (with_reducible refine (HMA.out _ (HQ.out.alloc _).bel).mono ?_); rintro e w3 ⟨rfl, hb⟩; have HZ := Lib.hid ((HQ.out.alloc _).step hb); clear hb))
                go_roundw
                case rel => exact ⟨l + 1, by omega, by go_num, by have := HNX.out HF.out; simpa using this, HZ.out⟩
                case measure => simp [intOf]; omega
              | true =>
                have HF := Lib.hid (show r = ⟨(k : Int), (l : Int), v, 0⟩ by rw [HR2.out]; exact HONE.out hf0)
                clear hf0
                go_wp2_with (first
                  | (go_at_call 12; (with_reducible refine (HH.out _).mono ?_); rintro e w2 ⟨rfl, hw⟩; replace hw := hw.symm; subst hw)
                  | (go_at_call 8; (with_reducible refine (HMA.out _ (HQ.out.alloc _).bel).mono ?_); rintro e w3 ⟨rfl, hb⟩; have HZ := Lib.hid ((HQ.out.alloc _).step hb); have HY := Lib.hid ((Blk.new wr _ _).below hb (by simp)); have a0 := HY.out.cell 0; have a1 := HY.out.cell 1; have a2 := HY.out.cell 2; have b0 := HZ.out.res.cell 0; have b1 := HZ.out.res.cell 1; have b2 := HZ.out.res.cell 2; have g0 := HZ.out.res.frozen 0; have g1 := HZ.out.res.frozen 1; have g2 := HZ.out.res.frozen 2; clear hb))
                (try simp only [Exit.inBlock, Exit.then])
                rw [HF.out]
                exact parse_out (cs := #[.int .i64 (k : Int), .int .i64 (l : Int), .string v]) (g := w.heap.size) rfl rfl rfl (put3 HZ.out.res _ _ _) ⟨rfl, bel3 HZ.out.bel (Nat.le_refl _) _ _ _⟩
          · obtain rfl : l = 4 := by omega
            have HB := Lib.hid (HN.out.next HI.out)
            go_wp2
            go_roundw
            case rel => exact ⟨k + 1, by omega, by omega, by go_num, by have := HB.out; simpa using this, HQ.out⟩
            case measure => simp [intOf]; omega
      · obtain rfl : k = 7 := by omega
        have H0 := Lib.hid (show r = noF by rw [HR2.out]; exact find_none fun a b h1 h2 h3 h4 => HN.out a b h1 (by omega) h3 h4)
        have b0 := HP.out.res.cell 0
        have b1 := HP.out.res.cell 1
        have b2 := HP.out.res.cell 2
        have g0 := HP.out.res.frozen 0
        have g1 := HP.out.res.frozen 1
        have g2 := HP.out.res.frozen 2
        go_wp2
        (try simp only [Exit.inBlock, Exit.then])
        rw [H0.out]
        exact parse_out (cs := #[.int .i64 0, .int .i64 0, .string ⟨#[]⟩]) (g := w.heap.size) rfl rfl rfl (put3 HP.out.res _ _ _) ⟨rfl, bel3 HP.out.bel (Nat.le_refl _) _ _ _⟩
end Go.Proofs.YthknkglhppngoaaDoor
