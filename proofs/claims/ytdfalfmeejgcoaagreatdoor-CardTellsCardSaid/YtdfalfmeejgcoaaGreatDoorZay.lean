/- card: one name, one day (maths). -/
import Derived.Test.YtdfalfmeejgcoaaGreatDoorZan
import Derived.Test.YtdfalfmeejgcoaaGreatDoorZap
/- CardBack: a text is parsed to what it was made of; canonical twice is canonical; what is parsed has that text. -/
namespace Go.Proofs.YtdfalfmeejgcoaaGreatDoor
open Go.RowKit
open Go.Lib hiding intOf
open Go.Sort Go.Proofs
set_option linter.unusedVariables false
set_option linter.unusedSimpArgs false
set_option maxRecDepth 100000
set_option maxHeartbeats 4000000 in
theorem fields_true {w : World} {A1 A2 : Option Addr} {c1 c2 b1 b2 o1 o2 : Nat} {L : List F3} (h1 : Fv w A1 c1 b1 o1 L) (h2 : Fv w A2 c2 b2 o2 L) (n : Nat) (hn : L.length = n) (hs : n ≤ 100000) : Calls Tryz.prog 15 #[.slice A1 n c1, .slice A2 n c2] w fun e w' => e = .returned (.bool true) ∧ Below w.heap.size w w' := by
  have H1 := Lib.hid h1
  have H2 := Lib.hid h2
  have HN := Lib.hid hn
  have hnn : ((n : Int) == (n : Int)) = true := beq_self_eq_true _
  clear h1 h2 hn
  go_enter Tryz.func15, Tryz.ntmps15
  go_wp2
  go_loopw [5] (fun i wr => ∃ q : Nat, q ≤ n ∧ i = .int .i64 (q : Int) ∧ Below w.heap.size w wr) (fun i _ => n - (intOf i).toNat)
  case atStart => exact ⟨0, Nat.zero_le _, rfl, Below.refl _ _⟩
  case round =>
    obtain ⟨q, hq, rfl, hb⟩ := hrel
    have HB := Lib.hid hb
    clear hb
    by_cases hql : q < n
    · obtain ⟨f, hf⟩ : ∃ f, L[q]? = some f := ⟨L[q]'(by rw [HN.out]; exact hql), List.getElem?_eq_getElem _⟩
      obtain ⟨rfl, _, a0, a1, a2⟩ := (H1.out.below HB.out).2 q f hf
      obtain ⟨rfl, _, d0, d1, d2⟩ := (H2.out.below HB.out).2 q f hf
      obtain ⟨f1, f2, f3⟩ := f
      simp only at a0 a1 a2 d0 d1 d2
      have heq : ∀ wq, Sem.run Tryz.prog (binOp .neq 36 (.agg #[.int .i64 f1, .int .i64 f2, .string f3]) (.agg #[.int .i64 f1, .int .i64 f2, .string f3])) wq = .ok (.bool false) wq := fun wq => by have := neF_run (f1, f2, f3) (f1, f2, f3) wq; rw [decide_eq_true rfl] at this; exact this
      have hqI : (q : Int) < (n : Int) := by omega
      clear hf
      go_wp2_with fail
      go_quiet (fail)
      go_wp2
      go_roundw
      case rel => exact ⟨q + 1, by omega, by go_num, ⟨HB.out.os, HB.out.tape, HB.out.output, HB.out.size, HB.out.block⟩⟩
      case measure => simp [intOf]; omega
    · obtain rfl : q = n := by omega
      clear hql
      go_wp2
      go_ret
      exact ⟨rfl, HB.out⟩
theorem ccanon_on {v : World} {A : Option Addr} {cap b off : Nat} {L : List F3} (n : Nat) (hn : L.length = n) (rv : List F3) (re : Int) (hc : canL L = (rv, re)) (m : Nat) (hm : rv.length = m) (h : Fv v A cap b off L) (h1 : L.length ≤ 1000) (hv : ∀ f ∈ L, f.2.2.size ≤ 1000000) (hE : Env v) :
    Calls Tryz.prog 9 #[.slice A n cap] v fun e w' => ∃ A' cap' g, e = .returned (.tuple #[.slice A' m cap', .int .i64 re]) ∧ Fv w' A' cap' g 0 rv ∧ Below v.heap.size v w' := by
  have := canon_any h h1 hv hE
  rw [hc, hn] at this
  simp only [hm] at this
  exact this.mono fun e w' ⟨hb, A', cap', g, he, hf⟩ => ⟨A', cap', g, he, hf, hb⟩
theorem cparse_on (s : ByteArray) (hs : s.size ≤ 1000000) (rv : List F3) (re : Int) (hp : parL s = (rv, re)) (m : Nat) (hm : rv.length = m) (v : World) (hE : Env v) :
    Calls Tryz.prog 13 #[.string s] v fun e w' => ∃ A' cap' g, e = .returned (.tuple #[.slice A' m cap', .int .i64 re]) ∧ Fv w' A' cap' g 0 rv ∧ Below v.heap.size v w' := by
  have := parse_any s hs v hE
  rw [hp] at this
  simp only [hm] at this
  exact this.mono fun e w' ⟨hb, A', cap', g, he, hf⟩ => ⟨A', cap', g, he, hf, hb⟩
theorem parL_vals (s : ByteArray) (hs : s.size ≤ 1000000) : ∀ f ∈ (parL s).1, f.2.2.size ≤ 1000000 := fun f hf => by
  unfold parL at hf
  split at hf
  · cases hf
  · split at hf
    · cases hf
    · split at hf
      · cases hf
      · obtain ⟨x, hx, rfl⟩ := List.mem_map.1 hf
        have h1 := fof_size x
        have h2 := lines_mem_size _ _ x hx
        omega
set_option maxHeartbeats 16000000 in
theorem cardBack_walk (w : World) (hTD : Tabs w ∧ Day.Tab w.heap.size w) (hM : Mx w) (A0 : Option Addr) (len0 cap0 : Nat) (S0 : Sh.ok w (Sh.slice 3 (Sh.agg 3 [(0, 1, (Sh.int .i64)), (1, 1, (Sh.int .i64)), (2, 1, Sh.str)])) [.slice A0 len0 cap0]) (a1 : ByteArray) (w1 : a1.size ≤ maxLen) :
    Calls Tryz.prog 4 #[.slice A0 len0 cap0, .string a1] w fun e w' => e = .returned (.bool true) ∧ Below w.heap.size w w' := by
  obtain ⟨b, off, L, hL, hF⟩ := fields_open S0
  have HE := Lib.hid (show Env w from ⟨hTD.1, hM, hTD.2⟩)
  have HF := Lib.hid hF
  have HL := Lib.hid hL
  have HF0 := Lib.hid (fun v (h : Env v) => first_any v h)
  have HLI := Lib.hid (fun v (h : Below w.heap.size w v) => light_any (hF.below h) len0 hL)
  clear hTD hM S0 w1 hF hL
  cases hli : lightF L with
  | false =>
    rw [hli] at HLI
    go_enter Tryz.func4, Tryz.ntmps4
    go_wp2_with fail
    refine (HF0.out _ HE.out).mono ?_
    rintro _ v1 ⟨rfl, hb⟩
    have HB1 := Lib.hid hb
    clear hb
    go_wp2_with (go_at_call 8; (with_reducible refine (HLI.out _ HB1.out).mono ?_); rintro _ v2 ⟨rfl, hb⟩; have HB2 := Lib.hid (HB1.out.trans (hb.mono HB1.out.size)); clear hb)
    refine (HF0.out _ (HE.out.on HB2.out)).mono ?_
    rintro _ v3 ⟨rfl, hb⟩
    have HB3 := Lib.hid (HB2.out.trans (hb.mono HB2.out.size))
    clear hb
    go_wp2
    go_ret
    exact ⟨rfl, HB3.out⟩
  | true =>
    obtain ⟨hl30, hl200⟩ := light_spec hli
    rw [hli] at HLI
    have HV := Lib.hid (show ∀ f ∈ L, f.2.2.size ≤ 1000000 from fun f hf => by have := hl200 f hf; omega)
    have HLE := Lib.hid (show L.length ≤ 1000 from by omega)
    clear hl30 hl200
    by_cases h15 : (a1.size : Int) > 1500
    · have h15' := h15
      go_enter Tryz.func4, Tryz.ntmps4
      go_wp2_with fail
      refine (HF0.out _ HE.out).mono ?_
      rintro _ v1 ⟨rfl, hb⟩
      have HB1 := Lib.hid hb
      clear hb
      go_wp2_with (go_at_call 8; (with_reducible refine (HLI.out _ HB1.out).mono ?_); rintro _ v2 ⟨rfl, hb⟩; have HB2 := Lib.hid (HB1.out.trans (hb.mono HB1.out.size)); clear hb)
      refine (HF0.out _ (HE.out.on HB2.out)).mono ?_
      rintro _ v3 ⟨rfl, hb⟩
      have HB3 := Lib.hid (HB2.out.trans (hb.mono HB2.out.size))
      clear hb
      go_wp2
      go_ret
      exact ⟨rfl, HB3.out⟩
    · have hs : a1.size ≤ 1000000 := by omega
      obtain ⟨x, pe, hp⟩ : ∃ x pe, parL a1 = (x, pe) := ⟨_, _, rfl⟩
      obtain ⟨a, ce, hc⟩ : ∃ a ce, canL L = (a, ce) := ⟨_, _, rfl⟩
      have hpc := parL_cases a1
      have hpv := parL_vals a1 hs
      have hpl := parL_len a1
      have hcc := canL_spec L
      have htx : txtL L = if (canL L).2 = 0 then (txt (canL L).1, 0) else (⟨#[]⟩, (canL L).2) := rfl
      have hti : titF (parL a1).1 = titF (parL a1).1 := rfl
      have hcd := @card_of L
      rw [hp] at hpc hpv hpl
      rw [hc] at hcc htx hcd
      simp only at hpc hpv hpl hcc htx hcd
      have HP := Lib.hid (fun v (h : Below w.heap.size w v) => cparse_on a1 hs x pe hp x.length rfl v (HE.out.on h))
      have HC := Lib.hid (fun v (h : Below w.heap.size w v) => ccanon_on len0 HL.out a ce hc a.length rfl (HF.out.below h) HLE.out HV.out (HE.out.on h))
      have ess : (a1.toList == a1.toList) = true := beq_self_eq_true _
      rcases hpc with ⟨rfl, hpt, hpi⟩ | ⟨rfl, rfl, hpi⟩
      · have HIS := Lib.hid (fun v (h : Env v) => is_on a1 hs true hpi v h)
        obtain ⟨m, hm⟩ : ∃ m, x.length = m := ⟨_, rfl⟩
        have HTX := Lib.hid (fun v {A : Option Addr} {cap b off : Nat} (h : Fv v A cap b off x) (hE : Env v) => text_on m hm a1 0 hpt h (by omega) hpv hE)
        rw [hm] at HP
        clear hpt hpi hpv hp hm
        by_cases hce : ce = 0
        · subst hce
          rw [if_pos rfl] at htx
          have hcrd := hcd rfl
          have HT := Lib.hid (fun v (h : Below w.heap.size w v) => text_on len0 HL.out (txt a) 0 htx (HF.out.below h) HLE.out HV.out (HE.out.on h))
          have hnum := card_nums hcrd
          have hcan := card_can hcrd
          have hbk := card_back hcrd
          obtain ⟨ma, hma⟩ : ∃ m, a.length = m := ⟨_, rfl⟩
          obtain ⟨tx, htxx⟩ : ∃ t, txt a = t := ⟨_, rfl⟩
          have HAL := Lib.hid hma
          rw [hma] at HC hnum
          rw [htxx] at HT hnum hbk
          have hvl : ∀ f ∈ a, f.2.2.size ≤ 1000000 := fun f hf => by
            have := may_size (hcrd.cnn f hf).1
            omega
          have HC2 := Lib.hid (fun v {A : Option Addr} {cap b off : Nat} (h : Fv v A cap b off a) (hE : Env v) => ccanon_on ma hma a 0 hcan ma hma h (by omega) hvl hE)
          have HP2 := Lib.hid (fun v (hE : Env v) => cparse_on tx (by omega) a 0 hbk ma hma v hE)
          have h9 : (tx.size : Int) ≤ 900 := by omega
          have h12 : (ma : Int) ≤ 12 := by omega
          clear htx hcrd hcan hbk hvl htxx hcc hcd hc hnum
          go_enter Tryz.func4, Tryz.ntmps4
          go_wp2_with fail
          refine (HF0.out _ HE.out).mono ?_
          rintro _ v1 ⟨rfl, hb⟩
          have HB1 := Lib.hid hb
          clear hb
          go_wp2_with (go_at_call 8; (with_reducible refine (HLI.out _ HB1.out).mono ?_); rintro _ v2 ⟨rfl, hb⟩; have HB2 := Lib.hid (HB1.out.trans (hb.mono HB1.out.size)); clear hb)
          go_wp2_with fail
          refine (HP.out _ HB2.out).mono ?_
          rintro _ v3 ⟨X1, X2, X3, rfl, hfx, hb⟩
          have HB3 := Lib.hid (HB2.out.trans (hb.mono HB2.out.size))
          have HFX := Lib.hid hfx
          clear hb hfx
          go_wp2_with fail
          refine (HTX.out _ HFX.out (HE.out.on HB3.out)).mono ?_
          rintro _ v4 ⟨rfl, hb⟩
          have HB4 := Lib.hid (HB3.out.trans (hb.mono HB3.out.size))
          clear hb
          go_wp2_with fail
          refine (HIS.out _ (HE.out.on HB4.out)).mono ?_
          rintro _ v5 ⟨rfl, hb⟩
          have HB5 := Lib.hid (HB4.out.trans (hb.mono HB4.out.size))
          clear hb
          go_wp2_with fail
          refine (HC.out _ HB5.out).mono ?_
          rintro _ v6 ⟨Y1, Y2, Y3, rfl, hfy, hb⟩
          have HB6 := Lib.hid (HB5.out.trans (hb.mono HB5.out.size))
          have HFY6 := Lib.hid hfy
          clear hb hfy
          go_wp2_with fail
          refine (HT.out _ HB6.out).mono ?_
          rintro _ v7 ⟨rfl, hb⟩
          have HB7 := Lib.hid (HB6.out.trans (hb.mono HB6.out.size))
          have HFY7 := Lib.hid (HFY6.out.below hb)
          clear hb
          go_wp2_with fail
          refine (HC2.out _ HFY7.out (HE.out.on HB7.out)).mono ?_
          rintro _ v8 ⟨Z1, Z2, Z3, rfl, hfz, hb⟩
          have HB8 := Lib.hid (HB7.out.trans (hb.mono HB7.out.size))
          have HFY8 := Lib.hid (HFY7.out.below hb)
          have HFZ8 := Lib.hid hfz
          clear hb hfz
          go_wp2_with fail
          refine (HP2.out _ (HE.out.on HB8.out)).mono ?_
          rintro _ v9 ⟨U1, U2, U3, rfl, hfu, hb⟩
          have HB9 := Lib.hid (HB8.out.trans (hb.mono HB8.out.size))
          have HFY9 := Lib.hid (HFY8.out.below hb)
          have HFZ9 := Lib.hid (HFZ8.out.below hb)
          have HFU9 := Lib.hid hfu
          clear hb hfu
          go_wp2_with fail
          refine (fields_true HFY9.out HFZ9.out _ HAL.out (by omega)).mono ?_
          rintro _ v10 ⟨rfl, hb⟩
          have HB10 := Lib.hid (HB9.out.trans (hb.mono HB9.out.size))
          have HFY10 := Lib.hid (HFY9.out.below hb)
          have HFU10 := Lib.hid (HFU9.out.below hb)
          clear hb
          go_wp2_with fail
          refine (fields_true HFY10.out HFU10.out _ HAL.out (by omega)).mono ?_
          rintro _ v11 ⟨rfl, hb⟩
          have HB11 := Lib.hid (HB10.out.trans (hb.mono HB10.out.size))
          clear hb
          go_wp2
          go_ret
          exact ⟨rfl, HB11.out⟩
        · rw [if_neg hce] at htx
          obtain ⟨_, rfl⟩ : ce ≠ 0 ∧ a = [] := by
            rcases hcc with ⟨h, _⟩ | h
            · exact absurd h hce
            · exact h
          have HT := Lib.hid (fun v (h : Below w.heap.size w v) => text_on len0 HL.out ⟨#[]⟩ ce htx (HF.out.below h) HLE.out HV.out (HE.out.on h))
          have g1 : (ce != ce) = false := by simp
          have g2 : (ce != 0) = true := by simpa using hce
          have g3 : (ce == ce) = true := by simp
          simp only [List.length_nil] at HC
          clear htx hcc hcd hc hce
          go_enter Tryz.func4, Tryz.ntmps4
          go_wp2_with fail
          refine (HF0.out _ HE.out).mono ?_
          rintro _ v1 ⟨rfl, hb⟩
          have HB1 := Lib.hid hb
          clear hb
          go_wp2_with (go_at_call 8; (with_reducible refine (HLI.out _ HB1.out).mono ?_); rintro _ v2 ⟨rfl, hb⟩; have HB2 := Lib.hid (HB1.out.trans (hb.mono HB1.out.size)); clear hb)
          go_wp2_with fail
          refine (HP.out _ HB2.out).mono ?_
          rintro _ v3 ⟨X1, X2, X3, rfl, hfx, hb⟩
          have HB3 := Lib.hid (HB2.out.trans (hb.mono HB2.out.size))
          have HFX := Lib.hid hfx
          clear hb hfx
          go_wp2_with fail
          refine (HTX.out _ HFX.out (HE.out.on HB3.out)).mono ?_
          rintro _ v4 ⟨rfl, hb⟩
          have HB4 := Lib.hid (HB3.out.trans (hb.mono HB3.out.size))
          clear hb
          go_wp2_with fail
          refine (HIS.out _ (HE.out.on HB4.out)).mono ?_
          rintro _ v5 ⟨rfl, hb⟩
          have HB5 := Lib.hid (HB4.out.trans (hb.mono HB4.out.size))
          clear hb
          go_wp2_with fail
          refine (HC.out _ HB5.out).mono ?_
          rintro _ v6 ⟨Y1, Y2, Y3, rfl, hfy, hb⟩
          have HB6 := Lib.hid (HB5.out.trans (hb.mono HB5.out.size))
          have HFY6 := Lib.hid hfy
          clear hb hfy
          go_wp2_with fail
          refine (HT.out _ HB6.out).mono ?_
          rintro _ v7 ⟨rfl, hb⟩
          have HB7 := Lib.hid (HB6.out.trans (hb.mono HB6.out.size))
          have HFY7 := Lib.hid (HFY6.out.below hb)
          clear hb
          go_wp2
          go_ret
          exact ⟨rfl, HB7.out⟩
      · have HIS := Lib.hid (fun v (h : Env v) => is_on a1 hs false hpi v h)
        have HTT := Lib.hid (fun v (h : Env v) => title_on a1 hs ⟨#[]⟩ (by rw [hp]; rfl) v h)
        simp only [List.length_nil] at HP
        clear hpi hpv hp
        by_cases hce : ce = 0
        · subst hce
          rw [if_pos rfl] at htx
          have hcrd := hcd rfl
          have HT := Lib.hid (fun v (h : Below w.heap.size w v) => text_on len0 HL.out (txt a) 0 htx (HF.out.below h) HLE.out HV.out (HE.out.on h))
          have hnum := card_nums hcrd
          have hcan := card_can hcrd
          have hbk := card_back hcrd
          obtain ⟨ma, hma⟩ : ∃ m, a.length = m := ⟨_, rfl⟩
          obtain ⟨tx, htxx⟩ : ∃ t, txt a = t := ⟨_, rfl⟩
          have HAL := Lib.hid hma
          rw [hma] at HC hnum
          rw [htxx] at HT hnum hbk
          have hvl : ∀ f ∈ a, f.2.2.size ≤ 1000000 := fun f hf => by
            have := may_size (hcrd.cnn f hf).1
            omega
          have HC2 := Lib.hid (fun v {A : Option Addr} {cap b off : Nat} (h : Fv v A cap b off a) (hE : Env v) => ccanon_on ma hma a 0 hcan ma hma h (by omega) hvl hE)
          have HP2 := Lib.hid (fun v (hE : Env v) => cparse_on tx (by omega) a 0 hbk ma hma v hE)
          have h9 : (tx.size : Int) ≤ 900 := by omega
          have h12 : (ma : Int) ≤ 12 := by omega
          clear htx hcrd hcan hbk hvl htxx hcc hcd hc hnum
          go_enter Tryz.func4, Tryz.ntmps4
          go_wp2_with fail
          refine (HF0.out _ HE.out).mono ?_
          rintro _ v1 ⟨rfl, hb⟩
          have HB1 := Lib.hid hb
          clear hb
          go_wp2_with (go_at_call 8; (with_reducible refine (HLI.out _ HB1.out).mono ?_); rintro _ v2 ⟨rfl, hb⟩; have HB2 := Lib.hid (HB1.out.trans (hb.mono HB1.out.size)); clear hb)
          go_wp2_with fail
          refine (HP.out _ HB2.out).mono ?_
          rintro _ v3 ⟨X1, X2, X3, rfl, hfx, hb⟩
          have HB3 := Lib.hid (HB2.out.trans (hb.mono HB2.out.size))
          have HFX := Lib.hid hfx
          clear hb hfx
          go_wp2_with fail
          refine (HIS.out _ (HE.out.on HB3.out)).mono ?_
          rintro _ v4 ⟨rfl, hb⟩
          have HB4 := Lib.hid (HB3.out.trans (hb.mono HB3.out.size))
          clear hb
          go_wp2_with fail
          refine (HTT.out _ (HE.out.on HB4.out)).mono ?_
          rintro _ v5 ⟨rfl, hb⟩
          have HB5 := Lib.hid (HB4.out.trans (hb.mono HB4.out.size))
          clear hb
          go_wp2_with fail
          refine (HC.out _ HB5.out).mono ?_
          rintro _ v6 ⟨Y1, Y2, Y3, rfl, hfy, hb⟩
          have HB6 := Lib.hid (HB5.out.trans (hb.mono HB5.out.size))
          have HFY6 := Lib.hid hfy
          clear hb hfy
          go_wp2_with fail
          refine (HT.out _ HB6.out).mono ?_
          rintro _ v7 ⟨rfl, hb⟩
          have HB7 := Lib.hid (HB6.out.trans (hb.mono HB6.out.size))
          have HFY7 := Lib.hid (HFY6.out.below hb)
          clear hb
          go_wp2_with fail
          refine (HC2.out _ HFY7.out (HE.out.on HB7.out)).mono ?_
          rintro _ v8 ⟨Z1, Z2, Z3, rfl, hfz, hb⟩
          have HB8 := Lib.hid (HB7.out.trans (hb.mono HB7.out.size))
          have HFY8 := Lib.hid (HFY7.out.below hb)
          have HFZ8 := Lib.hid hfz
          clear hb hfz
          go_wp2_with fail
          refine (HP2.out _ (HE.out.on HB8.out)).mono ?_
          rintro _ v9 ⟨U1, U2, U3, rfl, hfu, hb⟩
          have HB9 := Lib.hid (HB8.out.trans (hb.mono HB8.out.size))
          have HFY9 := Lib.hid (HFY8.out.below hb)
          have HFZ9 := Lib.hid (HFZ8.out.below hb)
          have HFU9 := Lib.hid hfu
          clear hb hfu
          go_wp2_with fail
          refine (fields_true HFY9.out HFZ9.out _ HAL.out (by omega)).mono ?_
          rintro _ v10 ⟨rfl, hb⟩
          have HB10 := Lib.hid (HB9.out.trans (hb.mono HB9.out.size))
          have HFY10 := Lib.hid (HFY9.out.below hb)
          have HFU10 := Lib.hid (HFU9.out.below hb)
          clear hb
          go_wp2_with fail
          refine (fields_true HFY10.out HFU10.out _ HAL.out (by omega)).mono ?_
          rintro _ v11 ⟨rfl, hb⟩
          have HB11 := Lib.hid (HB10.out.trans (hb.mono HB10.out.size))
          clear hb
          go_wp2
          go_ret
          exact ⟨rfl, HB11.out⟩
        · rw [if_neg hce] at htx
          obtain ⟨_, rfl⟩ : ce ≠ 0 ∧ a = [] := by
            rcases hcc with ⟨h, _⟩ | h
            · exact absurd h hce
            · exact h
          have HT := Lib.hid (fun v (h : Below w.heap.size w v) => text_on len0 HL.out ⟨#[]⟩ ce htx (HF.out.below h) HLE.out HV.out (HE.out.on h))
          have g1 : (ce != ce) = false := by simp
          have g2 : (ce != 0) = true := by simpa using hce
          have g3 : (ce == ce) = true := by simp
          simp only [List.length_nil] at HC
          clear htx hcc hcd hc hce
          go_enter Tryz.func4, Tryz.ntmps4
          go_wp2_with fail
          refine (HF0.out _ HE.out).mono ?_
          rintro _ v1 ⟨rfl, hb⟩
          have HB1 := Lib.hid hb
          clear hb
          go_wp2_with (go_at_call 8; (with_reducible refine (HLI.out _ HB1.out).mono ?_); rintro _ v2 ⟨rfl, hb⟩; have HB2 := Lib.hid (HB1.out.trans (hb.mono HB1.out.size)); clear hb)
          go_wp2_with fail
          refine (HP.out _ HB2.out).mono ?_
          rintro _ v3 ⟨X1, X2, X3, rfl, hfx, hb⟩
          have HB3 := Lib.hid (HB2.out.trans (hb.mono HB2.out.size))
          have HFX := Lib.hid hfx
          clear hb hfx
          go_wp2_with fail
          refine (HIS.out _ (HE.out.on HB3.out)).mono ?_
          rintro _ v4 ⟨rfl, hb⟩
          have HB4 := Lib.hid (HB3.out.trans (hb.mono HB3.out.size))
          clear hb
          go_wp2_with fail
          refine (HTT.out _ (HE.out.on HB4.out)).mono ?_
          rintro _ v5 ⟨rfl, hb⟩
          have HB5 := Lib.hid (HB4.out.trans (hb.mono HB4.out.size))
          clear hb
          go_wp2_with fail
          refine (HC.out _ HB5.out).mono ?_
          rintro _ v6 ⟨Y1, Y2, Y3, rfl, hfy, hb⟩
          have HB6 := Lib.hid (HB5.out.trans (hb.mono HB5.out.size))
          have HFY6 := Lib.hid hfy
          clear hb hfy
          go_wp2_with fail
          refine (HT.out _ HB6.out).mono ?_
          rintro _ v7 ⟨rfl, hb⟩
          have HB7 := Lib.hid (HB6.out.trans (hb.mono HB6.out.size))
          have HFY7 := Lib.hid (HFY6.out.below hb)
          clear hb
          go_wp2
          go_ret
          exact ⟨rfl, HB7.out⟩
end Go.Proofs.YtdfalfmeejgcoaaGreatDoor
namespace Go.Proofs.YtdfalfmeejgcoaaGreatDoor
open Go.RowKit
open Go.Lib hiding intOf
open Go.Sort Go.Proofs
set_option linter.unusedVariables false
set_option linter.unusedSimpArgs false
set_option maxRecDepth 100000
theorem cnt_all (k : Int) (L : List F3) : cnt k L = (L.filter fun f => f.1 == k).length := by unfold cnt cntF; rw [List.take_length]
theorem len_two {α : Type} {x y : α} : ∀ {l : List α}, x ∈ l → y ∈ l → x ≠ y → 2 ≤ l.length
  | [], h, _, _ => by cases h
  | [z], h1, h2, hne => by rw [List.mem_singleton] at h1 h2; exact absurd (h1.trans h2.symm) hne
  | _ :: _ :: _, _, _, _ => by simp
theorem cnt_two {k : Int} {L : List F3} {x y : F3} (h1 : x ∈ L) (h2 : y ∈ L) (hx : x.1 = k) (hy : y.1 = k) (hne : x ≠ y) : 2 ≤ cnt k L := by
  rw [cnt_all]
  exact len_two (List.mem_filter.2 ⟨h1, by simpa using hx⟩) (List.mem_filter.2 ⟨h2, by simpa using hy⟩) hne
theorem label_name {l : Int} (h : labelledB 1 l = true) : l = 0 := by
  unfold labelledB at h
  by_cases h0 : l = 0
  · exact h0
  · exfalso
    simp [h0] at h
/-- A card begins with its name, and has no other one. -/
theorem card_head {a : List F3} (h : IsCard a) : ∃ v rest, a = (1, 0, v) :: rest ∧ Cnn (1, 0, v) ∧ cnt 1 rest = 0 := by
  have h1 := (card_nums h).2.2.1
  rw [cnt_all] at h1
  obtain ⟨f, hf⟩ : ∃ f, f ∈ a.filter fun f => f.1 == 1 := List.exists_mem_of_length_pos (by omega)
  obtain ⟨hf1, hf2⟩ := List.mem_filter.1 hf
  have hf3 : f.1 = 1 := by simpa using hf2
  match a, h, h1, hf1 with
  | g :: rest, h, h1, hf1 =>
    have hg := h.cnn g List.mem_cons_self
    have hgm := may_kinds hg.1
    have hg1 : g.1 = 1 := by
      rcases List.mem_cons.1 hf1 with e | hr
      · rw [← e]; exact hf3
      · have hlt := (List.pairwise_cons.1 h.str).1 f hr
        unfold ltF lessF at hlt
        by_cases he : g.1 = f.1
        · rw [he]; exact hf3
        · rw [if_neg he] at hlt
          have := of_decide_eq_true hlt
          omega
    obtain ⟨g1, g2, g3⟩ := g
    simp only at hg1
    subst hg1
    have hl : g2 = 0 := by
      have hm := hg.1
      simp only at hm
      unfold mayF at hm
      simp only [Bool.and_eq_true] at hm
      exact label_name (by first | exact hm.1.1.2 | exact hm.1.2 | exact hm.2.1.1 | exact hm.1.1.1.2)
    subst hl
    refine ⟨g3, rest, rfl, hg, ?_⟩
    rw [List.filter_cons, if_pos (by rfl), List.length_cons] at h1
    rw [cnt_all]
    omega
theorem card_tail {v : ByteArray} {rest : List F3} (h : IsCard ((1, 0, v) :: rest)) (h0 : cnt 1 rest = 0) : canL rest = ([], 1) := by
  obtain ⟨e1, e2⟩ := cnn_all (L := rest) fun f hf => h.cnn f (List.mem_cons_of_mem _ hf)
  have hs := (List.pairwise_cons.1 h.str).2
  have hn := (card_nums h).1
  rw [List.length_cons] at hn
  rw [canL_ok e1, e2, rise_self hs]
  unfold canO
  rw [if_neg (by omega), if_pos (.inl (by omega))]
theorem clean_out (s : ByteArray) : ((cleanS s).2 = 0 ∧ (cleanS s).1 ≠ ⟨#[]⟩) ∨ ((cleanS s).2 ≠ 0 ∧ (cleanS s).1 = ⟨#[]⟩) := by
  unfold cleanS cleanOf
  split
  · exact .inr ⟨by decide, rfl⟩
  · split
    · exact .inr ⟨by decide, rfl⟩
    · split
      · exact .inr ⟨by decide, rfl⟩
      · rename_i h _; exact .inl ⟨rfl, h⟩
theorem cn1_name (s : ByteArray) : cn1 (1, 0, s) = if (cleanS s).2 = 0 then ((1, 0, (cleanS s).1), 0) else ((0, 0, ⟨#[]⟩), (cleanS s).2) := by
  have hv : valueS 1 s = cleanS s := by unfold valueS; rw [if_neg (by decide), if_neg (by decide), if_neg (by omega)]
  have h1 : ¬ ((kindW 1).toList.isEmpty = true ∨ labelledB 1 0 = false) := by decide +kernel
  unfold cn1
  simp only
  rw [if_neg h1, hv]
theorem cnn_name {v : ByteArray} (h : Cnn (1, 0, v)) : (cleanS v).2 = 0 ∧ (cleanS v).1 = v ∧ v ≠ ⟨#[]⟩ := by
  have := h.2.1
  rw [cn1_name] at this
  split at this
  · rename_i h0
    have e : (cleanS v).1 = v := by have := congrArg (fun p : F3 × Int => p.1.2.2) this; simpa using this
    rcases clean_out v with ⟨_, h2⟩ | ⟨h2, _⟩
    · exact ⟨h0, e, by rw [e] at h2; exact h2⟩
    · exact absurd h0 h2
  · have := congrArg (fun p : F3 × Int => p.1.1) this
    exact absurd this (by simp)
/-- One more name. -/
theorem card_more {v : ByteArray} {rest : List F3} (h : IsCard ((1, 0, v) :: rest)) (hl : ((1, 0, v) :: rest).length < 11) (s : ByteArray) :
    ∃ rv re, canL ((1, 0, v) :: rest ++ [(1, 0, s)]) = (rv, re) ∧ (re != 0) = !(v.toList == (cleanS s).1.toList) := by
  obtain ⟨a, ha⟩ : ∃ a, (1, 0, v) :: rest = a := ⟨_, rfl⟩
  have hv := cnn_name (h.cnn _ List.mem_cons_self)
  have hmem : ((1, 0, v) : F3) ∈ a := ha ▸ List.mem_cons_self
  rw [ha] at h hl ⊢
  rcases clean_out s with ⟨h1, h2⟩ | ⟨h1, h2⟩
  · have hc : cn1 (1, 0, s) = ((1, 0, (cleanS s).1), 0) := by rw [cn1_name, if_pos h1]
    obtain ⟨e1, e2⟩ := cnn_all h.cnn
    have herr : errL (a ++ [(1, 0, s)]) = 0 := (errL_zero _).2 fun f hf => by
      rcases List.mem_append.1 hf with hf | hf
      · rw [(h.cnn f hf).2.1]
      · rw [List.mem_singleton.1 hf, hc]
    have hcn : cnA (a ++ [(1, 0, s)]) = a ++ [(1, 0, (cleanS s).1)] := by
      have : cnA (a ++ [(1, 0, s)]) = cnA a ++ [(cn1 (1, 0, s)).1] := by unfold cnA; rw [List.map_append]; rfl
      rw [this, e2, hc]
    rw [canL_ok herr, hcn]
    by_cases hvv : v = (cleanS s).1
    · rw [← hvv]
      have : rise (a ++ [(1, 0, v)]) = a := rise_of h.str fun x => by
        rw [List.mem_append, List.mem_singleton]
        exact ⟨.inl, fun hx => hx.elim id fun e => e ▸ hmem⟩
      rw [this, h.can]
      exact ⟨_, _, rfl, by simp⟩
    · have hlen : (rise (a ++ [(1, 0, (cleanS s).1)])).length ≤ 11 := by
        have := rise_length_le (a ++ [(1, 0, (cleanS s).1)])
        rw [List.length_append] at this
        simp only [List.length_cons, List.length_nil] at this
        omega
      have h2c : 2 ≤ cnt 1 (rise (a ++ [(1, 0, (cleanS s).1)])) := cnt_two (x := (1, 0, v)) (y := (1, 0, (cleanS s).1)) ((rise_mem _ _).2 (List.mem_append_left _ hmem)) ((rise_mem _ _).2 (List.mem_append_right _ (List.mem_singleton_self _))) rfl rfl (fun e => hvv (congrArg (fun f : F3 => f.2.2) e))
      refine ⟨[], 1, by unfold canO; rw [if_neg (by omega), if_pos (.inl (by omega))], ?_⟩
      rw [Day.ne_str hvv]
      rfl
  · have herr : errL (a ++ [(1, 0, s)]) ≠ 0 := fun h0 => by
      have := (errL_zero _).1 h0 (1, 0, s) (List.mem_append_right _ (List.mem_singleton_self _))
      rw [cn1_name, if_neg h1] at this
      exact h1 this
    refine ⟨_, _, canL_err rfl herr, ?_⟩
    rw [h2, Day.ne_str hv.2.2]
    simpa using herr
abbrev d1S : ByteArray := ⟨#[50, 48, 48, 49, 45, 48, 49, 45, 48, 49]⟩
abbrev d2S : ByteArray := ⟨#[50, 48, 48, 49, 45, 48, 49, 45, 48, 50]⟩
theorem day1 : cn1 (5, 0, d1S) = ((5, 0, d1S), 0) := by decide +kernel
theorem day2 : cn1 (5, 0, d2S) = ((5, 0, d2S), 0) := by decide +kernel
theorem card_days {a : List F3} (h : IsCard a) (hl : a.length < 11) : canL (a ++ [(5, 0, d1S), (5, 0, d2S)]) = ([], 1) := by
  obtain ⟨e1, e2⟩ := cnn_all h.cnn
  have herr : errL (a ++ [(5, 0, d1S), (5, 0, d2S)]) = 0 := (errL_zero _).2 fun f hf => by
    rcases List.mem_append.1 hf with hf | hf
    · rw [(h.cnn f hf).2.1]
    · simp only [List.mem_cons, List.not_mem_nil, or_false] at hf
      rcases hf with rfl | rfl
      · rw [day1]
      · rw [day2]
  have hcn : cnA (a ++ [(5, 0, d1S), (5, 0, d2S)]) = a ++ [(5, 0, d1S), (5, 0, d2S)] := by
    have : cnA (a ++ [(5, 0, d1S), (5, 0, d2S)]) = cnA a ++ [(cn1 (5, 0, d1S)).1, (cn1 (5, 0, d2S)).1] := by unfold cnA; rw [List.map_append]; rfl
    rw [this, e2, day1, day2]
  rw [canL_ok herr, hcn]
  have hlen : (rise (a ++ [(5, 0, d1S), (5, 0, d2S)])).length ≤ 12 := by
    have := rise_length_le (a ++ [(5, 0, d1S), (5, 0, d2S)])
    rw [List.length_append] at this
    simp only [List.length_cons, List.length_nil] at this
    omega
  have h2c : 2 ≤ cnt 5 (rise (a ++ [(5, 0, d1S), (5, 0, d2S)])) := cnt_two (x := (5, 0, d1S)) (y := (5, 0, d2S)) ((rise_mem _ _).2 (List.mem_append_right _ (by simp))) ((rise_mem _ _).2 (List.mem_append_right _ (by simp))) rfl rfl (by decide)
  unfold canO
  rw [if_neg (by omega), if_pos (.inr (.inr (by omega)))]
end Go.Proofs.YtdfalfmeejgcoaaGreatDoor
