/- A sign's width as the reference reckons it, against the tables' one: plain numbers. -/
import Derived.Test.YtdfalfmeejgcoaaGreatDoorZn
import Derived.Test.YtdfalfmeejgcoaaGreatDoorZd
import Derived.Lib.TrimUEq
import Derived.Lib.RuneCount
import Derived.Laws.BitsAllLaws
/- CardBack: a text is parsed to what it was made of; canonical twice is canonical; what is parsed has that text. -/
namespace Go.Proofs.YtdfalfmeejgcoaaGreatDoor
open Go.RowKit
open Go.Lib hiding intOf
open Go.Sort Go.Proofs
set_option linter.unusedVariables false
set_option linter.unusedSimpArgs false
set_option maxRecDepth 100000
set_option maxHeartbeats 4000000 in
theorem fields_true {w : World} {A1 A2 : Option Addr} {c1 c2 b1 b2 o1 o2 : Nat} {L : List F3} (h1 : Fv w A1 c1 b1 o1 L) (h2 : Fv w A2 c2 b2 o2 L) (n : Nat) (hn : L.length = n) (hs : n ≤ 100000) : Calls Tryz.prog 15 #[.slice A1 n c1, .slice A2 n c2] w fun e w' => e = .returned (.bool true) ∧ Below w.heap.size w w' := by
  have H1 := Lib.hid h1
  have H2 := Lib.hid h2
  have HN := Lib.hid hn
  have hnn : ((n : Int) == (n : Int)) = true := beq_self_eq_true _
  clear h1 h2 hn
  go_enter Tryz.func15, Tryz.ntmps15
  go_wp2
  go_loopw [5] (fun i wr => ∃ q : Nat, q ≤ n ∧ i = .int .i64 (q : Int) ∧ Below w.heap.size w wr) (fun i _ => n - (intOf i).toNat)
  case atStart => exact ⟨0, Nat.zero_le _, rfl, Below.refl _ _⟩
  case round =>
    obtain ⟨q, hq, rfl, hb⟩ := hrel
    have HB := Lib.hid hb
    clear hb
    by_cases hql : q < n
    · obtain ⟨f, hf⟩ : ∃ f, L[q]? = some f := ⟨L[q]'(by rw [HN.out]; exact hql), List.getElem?_eq_getElem _⟩
      obtain ⟨rfl, _, a0, a1, a2⟩ := (H1.out.below HB.out).2 q f hf
      obtain ⟨rfl, _, d0, d1, d2⟩ := (H2.out.below HB.out).2 q f hf
      obtain ⟨f1, f2, f3⟩ := f
      simp only at a0 a1 a2 d0 d1 d2
      have heq : ∀ wq, Sem.run Tryz.prog (binOp .neq 36 (.agg #[.int .i64 f1, .int .i64 f2, .string f3]) (.agg #[.int .i64 f1, .int .i64 f2, .string f3])) wq = .ok (.bool false) wq := fun wq => by have := neF_run (f1, f2, f3) (f1, f2, f3) wq; rw [decide_eq_true rfl] at this; exact this
      have hqI : (q : Int) < (n : Int) := by omega
      clear hf
      go_wp2_with fail
      go_quiet (fail)
      go_wp2
      go_roundw
      case rel => exact ⟨q + 1, by omega, by go_num, ⟨HB.out.os, HB.out.tape, HB.out.output, HB.out.size, HB.out.block⟩⟩
      case measure => simp [intOf]; omega
    · obtain rfl : q = n := by omega
      clear hql
      go_wp2
      go_ret
      exact ⟨rfl, HB.out⟩
theorem ccanon_on {v : World} {A : Option Addr} {cap b off : Nat} {L : List F3} (n : Nat) (hn : L.length = n) (rv : List F3) (re : Int) (hc : canL L = (rv, re)) (m : Nat) (hm : rv.length = m) (h : Fv v A cap b off L) (h1 : L.length ≤ 1000) (hv : ∀ f ∈ L, f.2.2.size ≤ 1000000) (hE : Env v) :
    Calls Tryz.prog 9 #[.slice A n cap] v fun e w' => ∃ A' cap' g, e = .returned (.tuple #[.slice A' m cap', .int .i64 re]) ∧ Fv w' A' cap' g 0 rv ∧ Below v.heap.size v w' := by
  have := canon_any h h1 hv hE
  rw [hc, hn] at this
  simp only [hm] at this
  exact this.mono fun e w' ⟨hb, A', cap', g, he, hf⟩ => ⟨A', cap', g, he, hf, hb⟩
theorem cparse_on (s : ByteArray) (hs : s.size ≤ 1000000) (rv : List F3) (re : Int) (hp : parL s = (rv, re)) (m : Nat) (hm : rv.length = m) (v : World) (hE : Env v) :
    Calls Tryz.prog 13 #[.string s] v fun e w' => ∃ A' cap' g, e = .returned (.tuple #[.slice A' m cap', .int .i64 re]) ∧ Fv w' A' cap' g 0 rv ∧ Below v.heap.size v w' := by
  have := parse_any s hs v hE
  rw [hp] at this
  simp only [hm] at this
  exact this.mono fun e w' ⟨hb, A', cap', g, he, hf⟩ => ⟨A', cap', g, he, hf, hb⟩
theorem parL_vals (s : ByteArray) (hs : s.size ≤ 1000000) : ∀ f ∈ (parL s).1, f.2.2.size ≤ 1000000 := fun f hf => by
  unfold parL at hf
  split at hf
  · cases hf
  · split at hf
    · cases hf
    · split at hf
      · cases hf
      · obtain ⟨x, hx, rfl⟩ := List.mem_map.1 hf
        have h1 := fof_size x
        have h2 := lines_mem_size _ _ x hx
        omega
set_option maxHeartbeats 16000000 in
theorem cardBack_walk (w : World) (hTD : Tabs w ∧ Day.Tab w.heap.size w) (hM : Mx w) (A0 : Option Addr) (len0 cap0 : Nat) (S0 : Sh.ok w (Sh.slice 3 (Sh.agg 3 [(0, 1, (Sh.int .i64)), (1, 1, (Sh.int .i64)), (2, 1, Sh.str)])) [.slice A0 len0 cap0]) (a1 : ByteArray) (w1 : a1.size ≤ maxLen) :
    Calls Tryz.prog 4 #[.slice A0 len0 cap0, .string a1] w fun e w' => e = .returned (.bool true) ∧ Below w.heap.size w w' := by
  obtain ⟨b, off, L, hL, hF⟩ := fields_open S0
  have HE := Lib.hid (show Env w from ⟨hTD.1, hM, hTD.2⟩)
  have HF := Lib.hid hF
  have HL := Lib.hid hL
  have HF0 := Lib.hid (fun v (h : Env v) => first_any v h)
  have HLI := Lib.hid (fun v (h : Below w.heap.size w v) => light_any (hF.below h) len0 hL)
  clear hTD hM S0 w1 hF hL
  cases hli : lightF L with
  | false =>
    rw [hli] at HLI
    go_enter Tryz.func4, Tryz.ntmps4
    go_wp2_with fail
    refine (HF0.out _ HE.out).mono ?_
    rintro _ v1 ⟨rfl, hb⟩
    have HB1 := Lib.hid hb
    clear hb
    go_wp2_with (go_at_call 8; (with_reducible refine (HLI.out _ HB1.out).mono ?_); rintro _ v2 ⟨rfl, hb⟩; have HB2 := Lib.hid (HB1.out.trans (hb.mono HB1.out.size)); clear hb)
    refine (HF0.out _ (HE.out.on HB2.out)).mono ?_
    rintro _ v3 ⟨rfl, hb⟩
    have HB3 := Lib.hid (HB2.out.trans (hb.mono HB2.out.size))
    clear hb
    go_wp2
    go_ret
    exact ⟨rfl, HB3.out⟩
  | true =>
    obtain ⟨hl30, hl200⟩ := light_spec hli
    rw [hli] at HLI
    have HV := Lib.hid (show ∀ f ∈ L, f.2.2.size ≤ 1000000 from fun f hf => by have := hl200 f hf; omega)
    have HLE := Lib.hid (show L.length ≤ 1000 from by omega)
    clear hl30 hl200
    by_cases h15 : (a1.size : Int) > 1500
    · have h15' := h15
      go_enter Tryz.func4, Tryz.ntmps4
      go_wp2_with fail
      refine (HF0.out _ HE.out).mono ?_
      rintro _ v1 ⟨rfl, hb⟩
      have HB1 := Lib.hid hb
      clear hb
      go_wp2_with (go_at_call 8; (with_reducible refine (HLI.out _ HB1.out).mono ?_); rintro _ v2 ⟨rfl, hb⟩; have HB2 := Lib.hid (HB1.out.trans (hb.mono HB1.out.size)); clear hb)
      refine (HF0.out _ (HE.out.on HB2.out)).mono ?_
      rintro _ v3 ⟨rfl, hb⟩
      have HB3 := Lib.hid (HB2.out.trans (hb.mono HB2.out.size))
      clear hb
      go_wp2
      go_ret
      exact ⟨rfl, HB3.out⟩
    · have hs : a1.size ≤ 1000000 := by omega
      obtain ⟨x, pe, hp⟩ : ∃ x pe, parL a1 = (x, pe) := ⟨_, _, rfl⟩
      obtain ⟨a, ce, hc⟩ : ∃ a ce, canL L = (a, ce) := ⟨_, _, rfl⟩
      have hpc := parL_cases a1
      have hpv := parL_vals a1 hs
      have hpl := parL_len a1
      have hcc := canL_spec L
      have htx : txtL L = if (canL L).2 = 0 then (txt (canL L).1, 0) else (⟨#[]⟩, (canL L).2) := rfl
      have hti : titF (parL a1).1 = titF (parL a1).1 := rfl
      have hcd := @card_of L
      rw [hp] at hpc hpv hpl
      rw [hc] at hcc htx hcd
      simp only at hpc hpv hpl hcc htx hcd
      have HP := Lib.hid (fun v (h : Below w.heap.size w v) => cparse_on a1 hs x pe hp x.length rfl v (HE.out.on h))
      have HC := Lib.hid (fun v (h : Below w.heap.size w v) => ccanon_on len0 HL.out a ce hc a.length rfl (HF.out.below h) HLE.out HV.out (HE.out.on h))
      have ess : (a1.toList == a1.toList) = true := beq_self_eq_true _
      rcases hpc with ⟨rfl, hpt, hpi⟩ | ⟨rfl, rfl, hpi⟩
      · have HIS := Lib.hid (fun v (h : Env v) => is_on a1 hs true hpi v h)
        obtain ⟨m, hm⟩ : ∃ m, x.length = m := ⟨_, rfl⟩
        have HTX := Lib.hid (fun v {A : Option Addr} {cap b off : Nat} (h : Fv v A cap b off x) (hE : Env v) => text_on m hm a1 0 hpt h (by omega) hpv hE)
        rw [hm] at HP
        clear hpt hpi hpv hp hm
        by_cases hce : ce = 0
        · subst hce
          rw [if_pos rfl] at htx
          have hcrd := hcd rfl
          have HT := Lib.hid (fun v (h : Below w.heap.size w v) => text_on len0 HL.out (txt a) 0 htx (HF.out.below h) HLE.out HV.out (HE.out.on h))
          have hnum := card_nums hcrd
          have hcan := card_can hcrd
          have hbk := card_back hcrd
          obtain ⟨ma, hma⟩ : ∃ m, a.length = m := ⟨_, rfl⟩
          obtain ⟨tx, htxx⟩ : ∃ t, txt a = t := ⟨_, rfl⟩
          have HAL := Lib.hid hma
          rw [hma] at HC hnum
          rw [htxx] at HT hnum hbk
          have hvl : ∀ f ∈ a, f.2.2.size ≤ 1000000 := fun f hf => by
            have := may_size (hcrd.cnn f hf).1
            omega
          have HC2 := Lib.hid (fun v {A : Option Addr} {cap b off : Nat} (h : Fv v A cap b off a) (hE : Env v) => ccanon_on ma hma a 0 hcan ma hma h (by omega) hvl hE)
          have HP2 := Lib.hid (fun v (hE : Env v) => cparse_on tx (by omega) a 0 hbk ma hma v hE)
          have h9 : (tx.size : Int) ≤ 900 := by omega
          have h12 : (ma : Int) ≤ 12 := by omega
          clear htx hcrd hcan hbk hvl htxx hcc hcd hc hnum
          go_enter Tryz.func4, Tryz.ntmps4
          go_wp2_with fail
          refine (HF0.out _ HE.out).mono ?_
          rintro _ v1 ⟨rfl, hb⟩
          have HB1 := Lib.hid hb
          clear hb
          go_wp2_with (go_at_call 8; (with_reducible refine (HLI.out _ HB1.out).mono ?_); rintro _ v2 ⟨rfl, hb⟩; have HB2 := Lib.hid (HB1.out.trans (hb.mono HB1.out.size)); clear hb)
          go_wp2_with fail
          refine (HP.out _ HB2.out).mono ?_
          rintro _ v3 ⟨X1, X2, X3, rfl, hfx, hb⟩
          have HB3 := Lib.hid (HB2.out.trans (hb.mono HB2.out.size))
          have HFX := Lib.hid hfx
          clear hb hfx
          go_wp2_with fail
          refine (HTX.out _ HFX.out (HE.out.on HB3.out)).mono ?_
          rintro _ v4 ⟨rfl, hb⟩
          have HB4 := Lib.hid (HB3.out.trans (hb.mono HB3.out.size))
          clear hb
          go_wp2_with fail
          refine (HIS.out _ (HE.out.on HB4.out)).mono ?_
          rintro _ v5 ⟨rfl, hb⟩
          have HB5 := Lib.hid (HB4.out.trans (hb.mono HB4.out.size))
          clear hb
          go_wp2_with fail
          refine (HC.out _ HB5.out).mono ?_
          rintro _ v6 ⟨Y1, Y2, Y3, rfl, hfy, hb⟩
          have HB6 := Lib.hid (HB5.out.trans (hb.mono HB5.out.size))
          have HFY6 := Lib.hid hfy
          clear hb hfy
          go_wp2_with fail
          refine (HT.out _ HB6.out).mono ?_
          rintro _ v7 ⟨rfl, hb⟩
          have HB7 := Lib.hid (HB6.out.trans (hb.mono HB6.out.size))
          have HFY7 := Lib.hid (HFY6.out.below hb)
          clear hb
          go_wp2_with fail
          refine (HC2.out _ HFY7.out (HE.out.on HB7.out)).mono ?_
          rintro _ v8 ⟨Z1, Z2, Z3, rfl, hfz, hb⟩
          have HB8 := Lib.hid (HB7.out.trans (hb.mono HB7.out.size))
          have HFY8 := Lib.hid (HFY7.out.below hb)
          have HFZ8 := Lib.hid hfz
          clear hb hfz
          go_wp2_with fail
          refine (HP2.out _ (HE.out.on HB8.out)).mono ?_
          rintro _ v9 ⟨U1, U2, U3, rfl, hfu, hb⟩
          have HB9 := Lib.hid (HB8.out.trans (hb.mono HB8.out.size))
          have HFY9 := Lib.hid (HFY8.out.below hb)
          have HFZ9 := Lib.hid (HFZ8.out.below hb)
          have HFU9 := Lib.hid hfu
          clear hb hfu
          go_wp2_with fail
          refine (fields_true HFY9.out HFZ9.out _ HAL.out (by omega)).mono ?_
          rintro _ v10 ⟨rfl, hb⟩
          have HB10 := Lib.hid (HB9.out.trans (hb.mono HB9.out.size))
          have HFY10 := Lib.hid (HFY9.out.below hb)
          have HFU10 := Lib.hid (HFU9.out.below hb)
          clear hb
          go_wp2_with fail
          refine (fields_true HFY10.out HFU10.out _ HAL.out (by omega)).mono ?_
          rintro _ v11 ⟨rfl, hb⟩
          have HB11 := Lib.hid (HB10.out.trans (hb.mono HB10.out.size))
          clear hb
          go_wp2
          go_ret
          exact ⟨rfl, HB11.out⟩
        · rw [if_neg hce] at htx
          obtain ⟨_, rfl⟩ : ce ≠ 0 ∧ a = [] := by
            rcases hcc with ⟨h, _⟩ | h
            · exact absurd h hce
            · exact h
          have HT := Lib.hid (fun v (h : Below w.heap.size w v) => text_on len0 HL.out ⟨#[]⟩ ce htx (HF.out.below h) HLE.out HV.out (HE.out.on h))
          have g1 : (ce != ce) = false := by simp
          have g2 : (ce != 0) = true := by simpa using hce
          have g3 : (ce == ce) = true := by simp
          simp only [List.length_nil] at HC
          clear htx hcc hcd hc hce
          go_enter Tryz.func4, Tryz.ntmps4
          go_wp2_with fail
          refine (HF0.out _ HE.out).mono ?_
          rintro _ v1 ⟨rfl, hb⟩
          have HB1 := Lib.hid hb
          clear hb
          go_wp2_with (go_at_call 8; (with_reducible refine (HLI.out _ HB1.out).mono ?_); rintro _ v2 ⟨rfl, hb⟩; have HB2 := Lib.hid (HB1.out.trans (hb.mono HB1.out.size)); clear hb)
          go_wp2_with fail
          refine (HP.out _ HB2.out).mono ?_
          rintro _ v3 ⟨X1, X2, X3, rfl, hfx, hb⟩
          have HB3 := Lib.hid (HB2.out.trans (hb.mono HB2.out.size))
          have HFX := Lib.hid hfx
          clear hb hfx
          go_wp2_with fail
          refine (HTX.out _ HFX.out (HE.out.on HB3.out)).mono ?_
          rintro _ v4 ⟨rfl, hb⟩
          have HB4 := Lib.hid (HB3.out.trans (hb.mono HB3.out.size))
          clear hb
          go_wp2_with fail
          refine (HIS.out _ (HE.out.on HB4.out)).mono ?_
          rintro _ v5 ⟨rfl, hb⟩
          have HB5 := Lib.hid (HB4.out.trans (hb.mono HB4.out.size))
          clear hb
          go_wp2_with fail
          refine (HC.out _ HB5.out).mono ?_
          rintro _ v6 ⟨Y1, Y2, Y3, rfl, hfy, hb⟩
          have HB6 := Lib.hid (HB5.out.trans (hb.mono HB5.out.size))
          have HFY6 := Lib.hid hfy
          clear hb hfy
          go_wp2_with fail
          refine (HT.out _ HB6.out).mono ?_
          rintro _ v7 ⟨rfl, hb⟩
          have HB7 := Lib.hid (HB6.out.trans (hb.mono HB6.out.size))
          have HFY7 := Lib.hid (HFY6.out.below hb)
          clear hb
          go_wp2
          go_ret
          exact ⟨rfl, HB7.out⟩
      · have HIS := Lib.hid (fun v (h : Env v) => is_on a1 hs false hpi v h)
        have HTT := Lib.hid (fun v (h : Env v) => title_on a1 hs ⟨#[]⟩ (by rw [hp]; rfl) v h)
        simp only [List.length_nil] at HP
        clear hpi hpv hp
        by_cases hce : ce = 0
        · subst hce
          rw [if_pos rfl] at htx
          have hcrd := hcd rfl
          have HT := Lib.hid (fun v (h : Below w.heap.size w v) => text_on len0 HL.out (txt a) 0 htx (HF.out.below h) HLE.out HV.out (HE.out.on h))
          have hnum := card_nums hcrd
          have hcan := card_can hcrd
          have hbk := card_back hcrd
          obtain ⟨ma, hma⟩ : ∃ m, a.length = m := ⟨_, rfl⟩
          obtain ⟨tx, htxx⟩ : ∃ t, txt a = t := ⟨_, rfl⟩
          have HAL := Lib.hid hma
          rw [hma] at HC hnum
          rw [htxx] at HT hnum hbk
          have hvl : ∀ f ∈ a, f.2.2.size ≤ 1000000 := fun f hf => by
            have := may_size (hcrd.cnn f hf).1
            omega
          have HC2 := Lib.hid (fun v {A : Option Addr} {cap b off : Nat} (h : Fv v A cap b off a) (hE : Env v) => ccanon_on ma hma a 0 hcan ma hma h (by omega) hvl hE)
          have HP2 := Lib.hid (fun v (hE : Env v) => cparse_on tx (by omega) a 0 hbk ma hma v hE)
          have h9 : (tx.size : Int) ≤ 900 := by omega
          have h12 : (ma : Int) ≤ 12 := by omega
          clear htx hcrd hcan hbk hvl htxx hcc hcd hc hnum
          go_enter Tryz.func4, Tryz.ntmps4
          go_wp2_with fail
          refine (HF0.out _ HE.out).mono ?_
          rintro _ v1 ⟨rfl, hb⟩
          have HB1 := Lib.hid hb
          clear hb
          go_wp2_with (go_at_call 8; (with_reducible refine (HLI.out _ HB1.out).mono ?_); rintro _ v2 ⟨rfl, hb⟩; have HB2 := Lib.hid (HB1.out.trans (hb.mono HB1.out.size)); clear hb)
          go_wp2_with fail
          refine (HP.out _ HB2.out).mono ?_
          rintro _ v3 ⟨X1, X2, X3, rfl, hfx, hb⟩
          have HB3 := Lib.hid (HB2.out.trans (hb.mono HB2.out.size))
          have HFX := Lib.hid hfx
          clear hb hfx
          go_wp2_with fail
          refine (HIS.out _ (HE.out.on HB3.out)).mono ?_
          rintro _ v4 ⟨rfl, hb⟩
          have HB4 := Lib.hid (HB3.out.trans (hb.mono HB3.out.size))
          clear hb
          go_wp2_with fail
          refine (HTT.out _ (HE.out.on HB4.out)).mono ?_
          rintro _ v5 ⟨rfl, hb⟩
          have HB5 := Lib.hid (HB4.out.trans (hb.mono HB4.out.size))
          clear hb
          go_wp2_with fail
          refine (HC.out _ HB5.out).mono ?_
          rintro _ v6 ⟨Y1, Y2, Y3, rfl, hfy, hb⟩
          have HB6 := Lib.hid (HB5.out.trans (hb.mono HB5.out.size))
          have HFY6 := Lib.hid hfy
          clear hb hfy
          go_wp2_with fail
          refine (HT.out _ HB6.out).mono ?_
          rintro _ v7 ⟨rfl, hb⟩
          have HB7 := Lib.hid (HB6.out.trans (hb.mono HB6.out.size))
          have HFY7 := Lib.hid (HFY6.out.below hb)
          clear hb
          go_wp2_with fail
          refine (HC2.out _ HFY7.out (HE.out.on HB7.out)).mono ?_
          rintro _ v8 ⟨Z1, Z2, Z3, rfl, hfz, hb⟩
          have HB8 := Lib.hid (HB7.out.trans (hb.mono HB7.out.size))
          have HFY8 := Lib.hid (HFY7.out.below hb)
          have HFZ8 := Lib.hid hfz
          clear hb hfz
          go_wp2_with fail
          refine (HP2.out _ (HE.out.on HB8.out)).mono ?_
          rintro _ v9 ⟨U1, U2, U3, rfl, hfu, hb⟩
          have HB9 := Lib.hid (HB8.out.trans (hb.mono HB8.out.size))
          have HFY9 := Lib.hid (HFY8.out.below hb)
          have HFZ9 := Lib.hid (HFZ8.out.below hb)
          have HFU9 := Lib.hid hfu
          clear hb hfu
          go_wp2_with fail
          refine (fields_true HFY9.out HFZ9.out _ HAL.out (by omega)).mono ?_
          rintro _ v10 ⟨rfl, hb⟩
          have HB10 := Lib.hid (HB9.out.trans (hb.mono HB9.out.size))
          have HFY10 := Lib.hid (HFY9.out.below hb)
          have HFU10 := Lib.hid (HFU9.out.below hb)
          clear hb
          go_wp2_with fail
          refine (fields_true HFY10.out HFU10.out _ HAL.out (by omega)).mono ?_
          rintro _ v11 ⟨rfl, hb⟩
          have HB11 := Lib.hid (HB10.out.trans (hb.mono HB10.out.size))
          clear hb
          go_wp2
          go_ret
          exact ⟨rfl, HB11.out⟩
        · rw [if_neg hce] at htx
          obtain ⟨_, rfl⟩ : ce ≠ 0 ∧ a = [] := by
            rcases hcc with ⟨h, _⟩ | h
            · exact absurd h hce
            · exact h
          have HT := Lib.hid (fun v (h : Below w.heap.size w v) => text_on len0 HL.out ⟨#[]⟩ ce htx (HF.out.below h) HLE.out HV.out (HE.out.on h))
          have g1 : (ce != ce) = false := by simp
          have g2 : (ce != 0) = true := by simpa using hce
          have g3 : (ce == ce) = true := by simp
          simp only [List.length_nil] at HC
          clear htx hcc hcd hc hce
          go_enter Tryz.func4, Tryz.ntmps4
          go_wp2_with fail
          refine (HF0.out _ HE.out).mono ?_
          rintro _ v1 ⟨rfl, hb⟩
          have HB1 := Lib.hid hb
          clear hb
          go_wp2_with (go_at_call 8; (with_reducible refine (HLI.out _ HB1.out).mono ?_); rintro _ v2 ⟨rfl, hb⟩; have HB2 := Lib.hid (HB1.out.trans (hb.mono HB1.out.size)); clear hb)
          go_wp2_with fail
          refine (HP.out _ HB2.out).mono ?_
          rintro _ v3 ⟨X1, X2, X3, rfl, hfx, hb⟩
          have HB3 := Lib.hid (HB2.out.trans (hb.mono HB2.out.size))
          have HFX := Lib.hid hfx
          clear hb hfx
          go_wp2_with fail
          refine (HIS.out _ (HE.out.on HB3.out)).mono ?_
          rintro _ v4 ⟨rfl, hb⟩
          have HB4 := Lib.hid (HB3.out.trans (hb.mono HB3.out.size))
          clear hb
          go_wp2_with fail
          refine (HTT.out _ (HE.out.on HB4.out)).mono ?_
          rintro _ v5 ⟨rfl, hb⟩
          have HB5 := Lib.hid (HB4.out.trans (hb.mono HB4.out.size))
          clear hb
          go_wp2_with fail
          refine (HC.out _ HB5.out).mono ?_
          rintro _ v6 ⟨Y1, Y2, Y3, rfl, hfy, hb⟩
          have HB6 := Lib.hid (HB5.out.trans (hb.mono HB5.out.size))
          have HFY6 := Lib.hid hfy
          clear hb hfy
          go_wp2_with fail
          refine (HT.out _ HB6.out).mono ?_
          rintro _ v7 ⟨rfl, hb⟩
          have HB7 := Lib.hid (HB6.out.trans (hb.mono HB6.out.size))
          have HFY7 := Lib.hid (HFY6.out.below hb)
          clear hb
          go_wp2
          go_ret
          exact ⟨rfl, HB7.out⟩
end Go.Proofs.YtdfalfmeejgcoaaGreatDoor
/- How many signs a text has, by its bytes from the front. -/
namespace Go.Proofs.YtdfalfmeejgcoaaGreatDoor
open Go.RowKit Go.Lib
set_option linter.unusedVariables false
def rcG : Nat → List UInt8 → Nat
  | 0, _ => 0
  | f + 1, l => if l = [] then 0 else 1 + rcG f (l.drop (decodeL l).2)
theorem rc_list (s : ByteArray) : ∀ fuel pos, runeCountFrom s fuel pos = rcG fuel (s.data.toList.drop pos)
  | 0, _ => rfl
  | f + 1, pos => by
    have ih := rc_list s f (pos + (Utf8.decode s pos).2)
    unfold runeCountFrom rcG
    by_cases h : pos < s.size
    · rw [if_pos h, if_neg (fun e => by have := congrArg List.length e; simp at this; omega), ih, decodeL_drop, List.drop_drop]
    · rw [if_neg h, if_pos (List.drop_of_length_le (by simp; omega))]
theorem rcG_nil : ∀ n, rcG n [] = 0
  | 0 => rfl
  | _ + 1 => by simp [rcG]
theorem rcG_fuel : ∀ (n m : Nat) (l : List UInt8), l.length ≤ n → l.length ≤ m → rcG n l = rcG m l
  | 0, m, l, hn, _ => by
    obtain rfl : l = [] := List.eq_nil_of_length_eq_zero (by omega)
    rw [rcG_nil, rcG_nil]
  | n + 1, 0, l, _, hm => by
    obtain rfl : l = [] := List.eq_nil_of_length_eq_zero (by omega)
    rw [rcG_nil, rcG_nil]
  | n + 1, m + 1, l, hn, hm => by
    unfold rcG
    by_cases hne : l = []
    · rw [if_pos hne, if_pos hne]
    · have hw := decodeL_width l
      have hl : 0 < l.length := List.length_pos_iff.2 hne
      rw [if_neg hne, if_neg hne, rcG_fuel n m _ (by simp; omega) (by simp; omega)]
def rcL (l : List UInt8) : Nat := rcG l.length l
theorem runeCount_rcL (s : ByteArray) : runeCount s = rcL s.data.toList := by
  unfold runeCount rcL
  rw [rc_list, List.drop_zero]
  simp
theorem rcL_nil : rcL [] = 0 := rfl
theorem rcL_step (l : List UInt8) (hne : l ≠ []) : rcL l = 1 + rcL (l.drop (decodeL l).2) := by
  have hw := decodeL_width l
  have hl : 0 < l.length := List.length_pos_iff.2 hne
  obtain ⟨n, hn⟩ : ∃ n, l.length = n + 1 := ⟨l.length - 1, by omega⟩
  have e : rcL l = rcG (n + 1) l := by unfold rcL; rw [hn]
  rw [e]
  unfold rcG rcL
  rw [if_neg hne, rcG_fuel n (l.drop (decodeL l).2).length _ (by simp; omega) (Nat.le_refl _)]
theorem rcL_cons (c : UInt8) (t : List UInt8) (h : c.toNat < 128) : rcL (c :: t) = 1 + rcL t := by
  rw [rcL_step _ (by simp), decodeL_ascii c t h]; rfl
set_option maxHeartbeats 2000000 in
theorem lead_run2 (l : List UInt8) (hne : l ≠ []) (h0 : 128 ≤ (l.getD 0 0).toNat) (hv : validD l = true) :
    ∃ k, 2 ≤ k ∧ k ≤ l.length ∧ validD (l.drop k) = true ∧ (∀ j, j < k → 128 ≤ (l.getD j 0).toNat ∧ (0 < j → (l.getD j 0).toNat ≤ 191)) ∧ ∀ m : List UInt8, k ≤ m.length → (∀ j, j < k → m.getD j 0 = l.getD j 0) → validD m = validD (m.drop k) ∧ (decodeL m).2 = k := by
  rw [validD_lead l hne h0] at hv
  have fin : ∀ sz lo hi, firstT (l.getD 0 0).toNat % 8 = sz → accLo (firstT (l.getD 0 0).toNat / 16) = lo → accHi (firstT (l.getD 0 0).toNat / 16) = hi → (sz = 2 ∨ sz = 3 ∨ sz = 4 → 128 ≤ lo ∧ hi ≤ 191) → (sz = 2 ∨ sz = 3 ∨ sz = 4 ∨ (sz ≠ 2 ∧ sz ≠ 3 ∧ sz ≠ 4)) →
      ∃ k, 2 ≤ k ∧ k ≤ l.length ∧ validD (l.drop k) = true ∧ (∀ j, j < k → 128 ≤ (l.getD j 0).toNat ∧ (0 < j → (l.getD j 0).toNat ≤ 191)) ∧ ∀ m : List UInt8, k ≤ m.length → (∀ j, j < k → m.getD j 0 = l.getD j 0) → validD m = validD (m.drop k) ∧ (decodeL m).2 = k := by
    intro sz lo hi e1 e2 e3 hlo hsz
    rw [e1, e2, e3] at hv
    have hm : ∀ (k : Nat) (m : List UInt8), 2 ≤ k → k ≤ m.length → (∀ j, j < k → m.getD j 0 = l.getD j 0) → checkN m.length (m.getD 1 0).toNat (m.getD 2 0).toNat (m.getD 3 0).toNat sz lo hi = some k → validD m = validD (m.drop k) ∧ (decodeL m).2 = k := by
      intro k m h2 hk he hc
      have h00 := he 0 (by omega)
      refine ⟨by rw [validD_lead m (by rintro rfl; simp at hk; omega) (by rw [h00]; exact h0), h00, e1, e2, e3, hc], ?_⟩
      rw [decodeL_N]
      rcases check_decode m.length (m.getD 0 0).toNat (m.getD 1 0).toNat (m.getD 2 0).toNat (m.getD 3 0).toNat (by omega) (by rw [h00]; exact h0) (m.getD 0 0).toNat_lt (m.getD 1 0).toNat_lt (m.getD 2 0).toNat_lt (m.getD 3 0).toNat_lt with ⟨hc', _⟩ | ⟨k', _, hc', hd⟩
      · rw [h00, e1, e2, e3, hc] at hc'; cases hc'
      · rw [h00, e1, e2, e3, hc] at hc'
        rw [hd]; exact (Option.some.inj hc').symm
    rcases hsz with rfl | rfl | rfl | ⟨n2, n3, n4⟩
    · have hlo := hlo (by decide)
      unfold checkN at hv hm
      simp only [if_true] at hv hm
      split at hv
      next h => split at h <;> simp_all
      next k h =>
        split at h
        · cases h
        · obtain rfl := Option.some.inj h
          refine ⟨2, by omega, by omega, hv, fun j hj => ?_, fun m hk he => hm 2 m (by omega) hk he ?_⟩
          · match j, hj with
            | 0, _ => exact ⟨h0, fun h => absurd h (by omega)⟩
            | 1, _ => omega
          · rw [he 1 (by omega), if_neg (by omega)]
    · have hlo := hlo (by decide)
      unfold checkN at hv hm
      simp only [if_true, show ¬ (3 = 2) by decide, if_false] at hv hm
      split at hv
      next h => split at h <;> simp_all
      next k h =>
        split at h
        · cases h
        · obtain rfl := Option.some.inj h
          refine ⟨3, by omega, by omega, hv, fun j hj => ?_, fun m hk he => hm 3 m (by omega) hk he ?_⟩
          · match j, hj with
            | 0, _ => exact ⟨h0, fun h => absurd h (by omega)⟩
            | 1, _ => omega
            | 2, _ => omega
          · rw [he 1 (by omega), he 2 (by omega), if_neg (by omega)]
    · have hlo := hlo (by decide)
      unfold checkN at hv hm
      simp only [if_true, show ¬ (4 = 2) by decide, show ¬ (4 = 3) by decide, if_false] at hv hm
      split at hv
      next h => split at h <;> simp_all
      next k h =>
        split at h
        · cases h
        · obtain rfl := Option.some.inj h
          refine ⟨4, by omega, by omega, hv, fun j hj => ?_, fun m hk he => hm 4 m (by omega) hk he ?_⟩
          · match j, hj with
            | 0, _ => exact ⟨h0, fun h => absurd h (by omega)⟩
            | 1, _ => omega
            | 2, _ => omega
            | 3, _ => omega
          · rw [he 1 (by omega), he 2 (by omega), he 3 (by omega), if_neg (by omega)]
    · unfold checkN at hv
      rw [if_neg n2, if_neg n3, if_neg n4] at hv
      cases hv
  refine fin _ _ _ rfl rfl rfl ?_ (by omega)
  rcases firstT_cases (l.getD 0 0).toNat with h | h | h | h | h | h | h | h | h <;> rw [h] <;> decide
theorem lead_app (l : List UInt8) (k : Nat) (hk : k ≤ l.length) (h : ∀ m : List UInt8, k ≤ m.length → (∀ j, j < k → m.getD j 0 = l.getD j 0) → validD m = validD (m.drop k) ∧ (decodeL m).2 = k) (r : List UInt8) : (decodeL (l.take k ++ r)).2 = k := by
  have hl : (l.take k).length = k := by simp; omega
  exact (h (l.take k ++ r) (by simp; omega) (fun j hj => by
    simp only [List.getD_eq_getElem?_getD]
    rw [List.getElem?_append_left (by omega), List.getElem?_take, if_pos hj])).2
/-- A valid text and whatever stands behind it: as many signs as both. -/
theorem rcL_app : ∀ (n : Nat) (l r : List UInt8), l.length ≤ n → validD l = true → rcL (l ++ r) = rcL l + rcL r
  | _, [], r, _, _ => by rw [List.nil_append, rcL_nil]; omega
  | 0, _ :: _, _, h, _ => by simp at h
  | n + 1, c :: t, r, h, hv => by
    by_cases hc : c.toNat < 128
    · rw [validD_cons c t hc] at hv
      rw [List.cons_append, rcL_cons _ _ hc, rcL_cons _ _ hc, rcL_app n t r (by simp at h; omega) hv]; omega
    · obtain ⟨k, h2, hk, hd, _, hm⟩ := lead_run2 (c :: t) (by simp) (by simp; omega) hv
      have e1 : c :: t = (c :: t).take k ++ (c :: t).drop k := (List.take_append_drop _ _).symm
      have w1 : (decodeL (c :: t)).2 = k := by have := lead_app _ k hk hm ((c :: t).drop k); rwa [← e1] at this
      have e2 : (c :: t) ++ r = (c :: t).take k ++ ((c :: t).drop k ++ r) := by rw [← List.append_assoc, ← e1]
      have w2 : (decodeL ((c :: t) ++ r)).2 = k := by rw [e2]; exact lead_app _ k hk hm _
      have d2 : ((c :: t) ++ r).drop k = (c :: t).drop k ++ r := List.drop_append_of_le_length hk
      rw [rcL_step ((c :: t) ++ r) (by simp), w2, d2, rcL_step (c :: t) (by simp), w1, rcL_app n _ r (by simp at h ⊢; omega) hd]
      omega
end Go.Proofs.YtdfalfmeejgcoaaGreatDoor
namespace Go.Proofs.YtdfalfmeejgcoaaGreatDoor
open Go.RowKit Go.Lib
set_option linter.unusedVariables false
theorem i64_or (a b : Int) (h1 : 0 ≤ a) (h2 : a < 9223372036854775808) (h3 : 0 ≤ b) (h4 : b < 9223372036854775808) : bits .or .i64 a b = ((a.toNat ||| b.toNat : Nat) : Int) := by
  obtain ⟨A, rfl⟩ := Int.eq_ofNat_of_zero_le h1
  obtain ⟨B, rfl⟩ := Int.eq_ofNat_of_zero_le h3
  have hx : A ||| B < 2 ^ 63 := Nat.or_lt_two_pow (by omega) (by omega)
  show IntKind.i64.wrap ((BitVec.ofInt 64 (A : Int) ||| BitVec.ofInt 64 (B : Int)).toNat : Int) = _
  rw [BitVec.toNat_or, ofInt_u64 A (by omega), ofInt_u64 B (by omega), IntWalk.i64_in _ (by omega)]
  rfl
theorem or_join (i : Nat) (a b : Int) (h0 : 0 ≤ a) (h1 : a < 9223372036854775808) (hm : a.toNat % 2 ^ i = 0) (h2 : 0 ≤ b) (h3 : b < 2 ^ i) (hi : i < 63) : bits .or .i64 a b = a + b := by
  have hp : (2 : Int) ^ i ≤ 2 ^ 62 := by exact_mod_cast Nat.pow_le_pow_right (by omega) (show i ≤ 62 by omega)
  have hb : b.toNat < 2 ^ i := by have : ((b.toNat : Int)) < ((2 ^ i : Nat) : Int) := by push_cast; omega
                                  exact_mod_cast this
  rw [i64_or a b h0 (by omega) h2 (by omega), nat_join i _ _ hm hb]
  omega
theorem fin_all {p : Nat → Prop} [∀ n, Decidable (p n)] (h : ∀ n : Fin 256, p n) (b : UInt8) : p b.toNat := h ⟨b.toNat, b.toNat_lt⟩
theorem and_top (b : UInt8) : bits .and .u8 (b.toNat : Int) 192 = ((b.toNat / 64 * 64 : Nat) : Int) := fin_all (p := fun n => bits .and .u8 (n : Int) 192 = ((n / 64 * 64 : Nat) : Int)) (by decide +kernel) b
theorem and_63 (b : UInt8) : bits .and .u8 (b.toNat : Int) 63 = ((b.toNat % 64 : Nat) : Int) := fin_all (p := fun n => bits .and .u8 (n : Int) 63 = ((n % 64 : Nat) : Int)) (by decide +kernel) b
theorem and_31 (b : UInt8) : bits .and .u8 (b.toNat : Int) 31 = ((b.toNat % 32 : Nat) : Int) := fin_all (p := fun n => bits .and .u8 (n : Int) 31 = ((n % 32 : Nat) : Int)) (by decide +kernel) b
theorem and_15 (b : UInt8) : bits .and .u8 (b.toNat : Int) 15 = ((b.toNat % 16 : Nat) : Int) := fin_all (p := fun n => bits .and .u8 (n : Int) 15 = ((n % 16 : Nat) : Int)) (by decide +kernel) b
theorem and_7 (b : UInt8) : bits .and .u8 (b.toNat : Int) 7 = ((b.toNat % 8 : Nat) : Int) := fin_all (p := fun n => bits .and .u8 (n : Int) 7 = ((n % 8 : Nat) : Int)) (by decide +kernel) b
/-- How many bytes the sign at a text's beginning has; 0: none. -/
def signN (l : List UInt8) : Nat :=
  if (l.getD 0 0).toNat < 128 then 1 else (checkN l.length (l.getD 1 0).toNat (l.getD 2 0).toNat (l.getD 3 0).toNat (firstT (l.getD 0 0).toNat % 8) (accLo (firstT (l.getD 0 0).toNat / 16)) (accHi (firstT (l.getD 0 0).toNat / 16))).getD 0
/-- What the reference has gathered behind j bytes more. -/
def vS (l : List UInt8) (v0 : Nat) : Nat → Nat
  | 0 => v0
  | j + 1 => vS l v0 j * 64 + (l.getD (j + 1) 0).toNat % 64
def cont (l : List UInt8) (j : Nat) : Prop := 128 ≤ (l.getD j 0).toNat ∧ (l.getD j 0).toNat ≤ 191
theorem checkN_2 (n b1 b2 b3 lo hi : Nat) : checkN n b1 b2 b3 2 lo hi = if n < 2 ∨ b1 < lo ∨ hi < b1 then none else some 2 := rfl
theorem checkN_3 (n b1 b2 b3 lo hi : Nat) : checkN n b1 b2 b3 3 lo hi = if n < 3 ∨ b1 < lo ∨ hi < b1 ∨ b2 < 128 ∨ 191 < b2 then none else some 3 := rfl
theorem checkN_4 (n b1 b2 b3 lo hi : Nat) : checkN n b1 b2 b3 4 lo hi = if n < 4 ∨ b1 < lo ∨ hi < b1 ∨ b2 < 128 ∨ 191 < b2 ∨ b3 < 128 ∨ 191 < b3 then none else some 4 := rfl
theorem signN_low (l : List UInt8) (h : (l.getD 0 0).toNat < 128) : signN l = 1 := by unfold signN; rw [if_pos h]
theorem signN_bad (l : List UInt8) (h : (128 ≤ (l.getD 0 0).toNat ∧ (l.getD 0 0).toNat < 194) ∨ 245 ≤ (l.getD 0 0).toNat) : signN l = 0 := by
  have e : firstT (l.getD 0 0).toNat = 241 := by
    unfold firstT
    repeat' split
    all_goals omega
  unfold signN; rw [if_neg (by omega), e]; rfl
/-- The reference's last look. -/
def fine (least v : Nat) : Prop := ¬ v < least ∧ ¬ 1114111 < v ∧ ¬ (55296 ≤ v ∧ v ≤ 57343)
theorem signN_short (l : List UInt8) (n : Nat) (hn : (194 ≤ (l.getD 0 0).toNat ∧ (l.getD 0 0).toNat ≤ 223 ∧ n = 2) ∨ (224 ≤ (l.getD 0 0).toNat ∧ (l.getD 0 0).toNat ≤ 239 ∧ n = 3) ∨ (240 ≤ (l.getD 0 0).toNat ∧ (l.getD 0 0).toNat ≤ 244 ∧ n = 4))
    (h : l.length < n ∨ ∃ j, 1 ≤ j ∧ j < n ∧ ¬ cont l j) : signN l = 0 := by
  unfold cont at h
  have hlo : (l.getD 0 0).toNat < 245 := by omega
  generalize hb0 : (l.getD 0 0).toNat = b0 at hn hlo
  have key : checkN l.length (l.getD 1 0).toNat (l.getD 2 0).toNat (l.getD 3 0).toNat (firstT b0 % 8) (accLo (firstT b0 / 16)) (accHi (firstT b0 / 16)) = none := by
    have acc : ∀ x, x ≤ 4 → 128 ≤ accLo x ∧ accHi x ≤ 191 := by decide
    have hf : firstT b0 / 16 ≤ 4 ∧ firstT b0 % 8 = n := by
      unfold firstT; repeat' split
      all_goals omega
    have ha := acc _ hf.1
    rw [hf.2]
    rcases hn with ⟨_, _, rfl⟩ | ⟨_, _, rfl⟩ | ⟨_, _, rfl⟩
    · rw [checkN_2, if_pos]
      rcases h with h | ⟨j, h1, h2, h3⟩
      · omega
      · obtain rfl : j = 1 := by omega
        omega
    · rw [checkN_3, if_pos]
      rcases h with h | ⟨j, h1, h2, h3⟩
      · omega
      · obtain rfl | rfl : j = 1 ∨ j = 2 := by omega
        all_goals omega
    · rw [checkN_4, if_pos]
      rcases h with h | ⟨j, h1, h2, h3⟩
      · omega
      · obtain rfl | rfl | rfl : j = 1 ∨ j = 2 ∨ j = 3 := by omega
        all_goals omega
  unfold signN; rw [hb0, if_neg (by omega), key]; rfl
theorem signN_long (l : List UInt8) (n least v0 : Nat) (hn : (194 ≤ (l.getD 0 0).toNat ∧ (l.getD 0 0).toNat ≤ 223 ∧ n = 2 ∧ least = 128 ∧ v0 = (l.getD 0 0).toNat % 32) ∨ (224 ≤ (l.getD 0 0).toNat ∧ (l.getD 0 0).toNat ≤ 239 ∧ n = 3 ∧ least = 2048 ∧ v0 = (l.getD 0 0).toNat % 16) ∨ (240 ≤ (l.getD 0 0).toNat ∧ (l.getD 0 0).toNat ≤ 244 ∧ n = 4 ∧ least = 65536 ∧ v0 = (l.getD 0 0).toNat % 8))
    (hl : n ≤ l.length) (h : ∀ j, 1 ≤ j → j < n → cont l j) : (fine least (vS l v0 (n - 1)) → signN l = n) ∧ (¬ fine least (vS l v0 (n - 1)) → signN l = 0) := by
  unfold cont at h
  have hlo : (l.getD 0 0).toNat < 245 := by omega
  unfold signN
  generalize hb0 : (l.getD 0 0).toNat = b0 at hn hlo
  rw [if_neg (show ¬ b0 < 128 by omega)]
  unfold fine
  rcases hn with ⟨h1, h2, rfl, rfl, rfl⟩ | ⟨h1, h2, rfl, rfl, rfl⟩ | ⟨h1, h2, rfl, rfl, rfl⟩
  · have c1 := h 1 (by omega) (by omega)
    rw [firstT_C2 ⟨h1, by omega⟩, checkN_2]
    simp only [vS, show (2 : Nat) - 1 = 0 + 1 from rfl, Nat.zero_add]
    have a1 : accLo (2 / 16) = 128 := rfl
    have a2 : accHi (2 / 16) = 191 := rfl
    rw [a1, a2, if_neg (by omega)]
    exact ⟨fun _ => rfl, fun hf => by exfalso; omega⟩
  · have c1 := h 1 (by omega) (by omega)
    have c2 := h 2 (by omega) (by omega)
    simp only [vS, show (3 : Nat) - 1 = 0 + 1 + 1 from rfl, Nat.zero_add, show (1 : Nat) + 1 = 2 from rfl]
    generalize (l.getD 1 0).toNat = b1 at c1 ⊢
    generalize (l.getD 2 0).toNat = b2 at c2 ⊢
    rcases (show b0 = 224 ∨ ((225 ≤ b0 ∧ b0 < 237) ∨ (238 ≤ b0 ∧ b0 < 240)) ∨ b0 = 237 by omega) with h3 | h3 | h3
    · rw [firstT_E0 h3, checkN_3, show accLo (19 / 16) = 160 from rfl, show accHi (19 / 16) = 191 from rfl]
      constructor
      · intro hf; rw [if_neg (by omega)]; rfl
      · intro hf; rw [if_pos (by omega)]; rfl
    · rw [firstT_E1 h3, checkN_3, show accLo (3 / 16) = 128 from rfl, show accHi (3 / 16) = 191 from rfl]
      constructor
      · intro hf; rw [if_neg (by omega)]; rfl
      · intro hf; exfalso; omega
    · rw [firstT_ED h3, checkN_3, show accLo (35 / 16) = 128 from rfl, show accHi (35 / 16) = 159 from rfl]
      constructor
      · intro hf; rw [if_neg (by omega)]; rfl
      · intro hf; rw [if_pos (by omega)]; rfl
  · have c1 := h 1 (by omega) (by omega)
    have c2 := h 2 (by omega) (by omega)
    have c3 := h 3 (by omega) (by omega)
    simp only [vS, show (4 : Nat) - 1 = 0 + 1 + 1 + 1 from rfl, Nat.zero_add, show (1 : Nat) + 1 = 2 from rfl, show (2 : Nat) + 1 = 3 from rfl]
    generalize (l.getD 1 0).toNat = b1 at c1 ⊢
    generalize (l.getD 2 0).toNat = b2 at c2 ⊢
    generalize (l.getD 3 0).toNat = b3 at c3 ⊢
    rcases (show b0 = 240 ∨ (241 ≤ b0 ∧ b0 < 244) ∨ b0 = 244 by omega) with h3 | h3 | h3
    · rw [firstT_F0 h3, checkN_4, show accLo (52 / 16) = 144 from rfl, show accHi (52 / 16) = 191 from rfl]
      constructor
      · intro hf; rw [if_neg (by omega)]; rfl
      · intro hf; rw [if_pos (by omega)]; rfl
    · rw [firstT_F1 h3, checkN_4, show accLo (4 / 16) = 128 from rfl, show accHi (4 / 16) = 191 from rfl]
      constructor
      · intro hf; rw [if_neg (by omega)]; rfl
      · intro hf; exfalso; omega
    · rw [firstT_F4 h3, checkN_4, show accLo (68 / 16) = 128 from rfl, show accHi (68 / 16) = 143 from rfl]
      constructor
      · intro hf; rw [if_neg (by omega)]; rfl
      · intro hf; rw [if_pos (by omega)]; rfl
theorem vS_lt (l : List UInt8) (v0 : Nat) (h : v0 < 32) : ∀ j, j ≤ 3 → vS l v0 j < 32 * 64 ^ j
  | 0, _ => by simpa [vS] using h
  | j + 1, hj => by
    have ih := vS_lt l v0 h j (by omega)
    rw [Nat.pow_succ]
    simp only [vS]
    have := Nat.mod_lt (l.getD (j + 1) 0).toNat (show 0 < 64 by decide)
    omega
theorem checkN_le {n b1 b2 b3 sz lo hi k : Nat} (hk : checkN n b1 b2 b3 sz lo hi = some k) : k ≠ 0 ∧ k ≤ n := by
  unfold checkN at hk
  repeat' split at hk
  all_goals cases hk
  all_goals omega
/-- What the tables' decoder says of a text, by its first sign. -/
theorem signN_valid (l : List UInt8) (hne : l ≠ []) : validD l = (decide (signN l ≠ 0) && validD (l.drop (signN l))) := by
  by_cases h : (l.getD 0 0).toNat < 128
  · rw [signN_low l h]
    cases l with
    | nil => exact absurd rfl hne
    | cons c t => rw [validD_cons c t (by simpa using h)]; simp
  · rw [validD_lead l hne (by omega)]
    unfold signN
    rw [if_neg h]
    split
    next e => rw [e]; simp
    next k e => rw [e]; simp [(checkN_le e).1]
theorem signN_width (l : List UInt8) (hne : l ≠ []) (h0 : signN l ≠ 0) : (decodeL l).2 = signN l ∧ 1 ≤ signN l ∧ signN l ≤ l.length := by
  have hw := decodeL_width l
  have hl : 0 < l.length := List.length_pos_iff.2 hne
  have e : (decodeL l).2 = signN l := by
    by_cases h : (l.getD 0 0).toNat < 128
    · rw [signN_low l h]
      cases l with
      | nil => exact absurd rfl hne
      | cons c t => rw [decodeL_ascii c t (by simpa using h)]
    · unfold signN at h0 ⊢
      rw [if_neg h] at h0 ⊢
      rw [decodeL_N]
      rcases check_decode l.length (l.getD 0 0).toNat (l.getD 1 0).toNat (l.getD 2 0).toNat (l.getD 3 0).toNat hl (by omega) (l.getD 0 0).toNat_lt (l.getD 1 0).toNat_lt (l.getD 2 0).toNat_lt (l.getD 3 0).toNat_lt with ⟨hc, _⟩ | ⟨k, hk, hc, hd⟩
      · rw [hc] at h0; exact absurd rfl h0
      · rw [hc]; exact hd
  refine ⟨e, by omega, ?_⟩
  by_cases h : (l.getD 0 0).toNat < 128
  · rw [signN_low l h]; omega
  · unfold signN at h0 ⊢
    rw [if_neg h] at h0 ⊢
    cases hc : checkN l.length (l.getD 1 0).toNat (l.getD 2 0).toNat (l.getD 3 0).toNat (firstT (l.getD 0 0).toNat % 8) (accLo (firstT (l.getD 0 0).toNat / 16)) (accHi (firstT (l.getD 0 0).toNat / 16)) with
    | none => rw [hc] at h0; exact absurd rfl h0
    | some k => exact (checkN_le hc).2
end Go.Proofs.YtdfalfmeejgcoaaGreatDoor
