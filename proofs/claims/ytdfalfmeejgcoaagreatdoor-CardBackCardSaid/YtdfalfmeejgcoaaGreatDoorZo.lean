/- What the listed variables give the walks: utf8's two tables, the table of powers of ten; and that the program's own start meets the condition. -/
import Derived.Test.YtdfalfmeejgcoaaGreatDoorZn
import Derived.Test.YtdfalfmeejgcoaaGreatDoorZf
import Derived.Handed
import Derived.HandedShaped
import Derived.Shelf.Vars
import Derived.KernelRfl
import Derived.Test.YtdfalfmeejgcoaaGreatDoorRows
import Derived.Test.YtdfalfmeejgcoaaGreatDoorZi
import Derived.LaidMore
import Derived.PinnedBridge
import Derived.Lay
import Derived.Lib.LaidIn
import Derived.Lib.LaidTab
import Derived.Lib.LaidU8T
import Derived.MakeChecks
import Derived.Stop.Joined
import Derived.Stop.LaidErr
/- CardBack: a text is parsed to what it was made of; canonical twice is canonical; what is parsed has that text. -/
namespace Go.Proofs.YtdfalfmeejgcoaaGreatDoor
open Go.RowKit
open Go.Lib hiding intOf
open Go.Sort Go.Proofs
set_option linter.unusedVariables false
set_option linter.unusedSimpArgs false
set_option maxRecDepth 100000
set_option maxHeartbeats 4000000 in
theorem fields_true {w : World} {A1 A2 : Option Addr} {c1 c2 b1 b2 o1 o2 : Nat} {L : List F3} (h1 : Fv w A1 c1 b1 o1 L) (h2 : Fv w A2 c2 b2 o2 L) (n : Nat) (hn : L.length = n) (hs : n ≤ 100000) : Calls Tryz.prog 15 #[.slice A1 n c1, .slice A2 n c2] w fun e w' => e = .returned (.bool true) ∧ Below w.heap.size w w' := by
  have H1 := Lib.hid h1
  have H2 := Lib.hid h2
  have HN := Lib.hid hn
  have hnn : ((n : Int) == (n : Int)) = true := beq_self_eq_true _
  clear h1 h2 hn
  go_enter Tryz.func15, Tryz.ntmps15
  go_wp2
  go_loopw [5] (fun i wr => ∃ q : Nat, q ≤ n ∧ i = .int .i64 (q : Int) ∧ Below w.heap.size w wr) (fun i _ => n - (intOf i).toNat)
  case atStart => exact ⟨0, Nat.zero_le _, rfl, Below.refl _ _⟩
  case round =>
    obtain ⟨q, hq, rfl, hb⟩ := hrel
    have HB := Lib.hid hb
    clear hb
    by_cases hql : q < n
    · obtain ⟨f, hf⟩ : ∃ f, L[q]? = some f := ⟨L[q]'(by rw [HN.out]; exact hql), List.getElem?_eq_getElem _⟩
      obtain ⟨rfl, _, a0, a1, a2⟩ := (H1.out.below HB.out).2 q f hf
      obtain ⟨rfl, _, d0, d1, d2⟩ := (H2.out.below HB.out).2 q f hf
      obtain ⟨f1, f2, f3⟩ := f
      simp only at a0 a1 a2 d0 d1 d2
      have heq : ∀ wq, Sem.run Tryz.prog (binOp .neq 36 (.agg #[.int .i64 f1, .int .i64 f2, .string f3]) (.agg #[.int .i64 f1, .int .i64 f2, .string f3])) wq = .ok (.bool false) wq := fun wq => by have := neF_run (f1, f2, f3) (f1, f2, f3) wq; rw [decide_eq_true rfl] at this; exact this
      have hqI : (q : Int) < (n : Int) := by omega
      clear hf
      go_wp2_with fail
      go_quiet (fail)
      go_wp2
      go_roundw
      case rel => exact ⟨q + 1, by omega, by go_num, ⟨HB.out.os, HB.out.tape, HB.out.output, HB.out.size, HB.out.block⟩⟩
      case measure => simp [intOf]; omega
    · obtain rfl : q = n := by omega
      clear hql
      go_wp2
      go_ret
      exact ⟨rfl, HB.out⟩
theorem ccanon_on {v : World} {A : Option Addr} {cap b off : Nat} {L : List F3} (n : Nat) (hn : L.length = n) (rv : List F3) (re : Int) (hc : canL L = (rv, re)) (m : Nat) (hm : rv.length = m) (h : Fv v A cap b off L) (h1 : L.length ≤ 1000) (hv : ∀ f ∈ L, f.2.2.size ≤ 1000000) (hE : Env v) :
    Calls Tryz.prog 9 #[.slice A n cap] v fun e w' => ∃ A' cap' g, e = .returned (.tuple #[.slice A' m cap', .int .i64 re]) ∧ Fv w' A' cap' g 0 rv ∧ Below v.heap.size v w' := by
  have := canon_any h h1 hv hE
  rw [hc, hn] at this
  simp only [hm] at this
  exact this.mono fun e w' ⟨hb, A', cap', g, he, hf⟩ => ⟨A', cap', g, he, hf, hb⟩
theorem cparse_on (s : ByteArray) (hs : s.size ≤ 1000000) (rv : List F3) (re : Int) (hp : parL s = (rv, re)) (m : Nat) (hm : rv.length = m) (v : World) (hE : Env v) :
    Calls Tryz.prog 13 #[.string s] v fun e w' => ∃ A' cap' g, e = .returned (.tuple #[.slice A' m cap', .int .i64 re]) ∧ Fv w' A' cap' g 0 rv ∧ Below v.heap.size v w' := by
  have := parse_any s hs v hE
  rw [hp] at this
  simp only [hm] at this
  exact this.mono fun e w' ⟨hb, A', cap', g, he, hf⟩ => ⟨A', cap', g, he, hf, hb⟩
theorem parL_vals (s : ByteArray) (hs : s.size ≤ 1000000) : ∀ f ∈ (parL s).1, f.2.2.size ≤ 1000000 := fun f hf => by
  unfold parL at hf
  split at hf
  · cases hf
  · split at hf
    · cases hf
    · split at hf
      · cases hf
      · obtain ⟨x, hx, rfl⟩ := List.mem_map.1 hf
        have h1 := fof_size x
        have h2 := lines_mem_size _ _ x hx
        omega
set_option maxHeartbeats 16000000 in
theorem cardBack_walk (w : World) (hTD : Tabs w ∧ Day.Tab w.heap.size w) (hM : Mx w) (A0 : Option Addr) (len0 cap0 : Nat) (S0 : Sh.ok w (Sh.slice 3 (Sh.agg 3 [(0, 1, (Sh.int .i64)), (1, 1, (Sh.int .i64)), (2, 1, Sh.str)])) [.slice A0 len0 cap0]) (a1 : ByteArray) (w1 : a1.size ≤ maxLen) :
    Calls Tryz.prog 4 #[.slice A0 len0 cap0, .string a1] w fun e w' => e = .returned (.bool true) ∧ Below w.heap.size w w' := by
  obtain ⟨b, off, L, hL, hF⟩ := fields_open S0
  have HE := Lib.hid (show Env w from ⟨hTD.1, hM, hTD.2⟩)
  have HF := Lib.hid hF
  have HL := Lib.hid hL
  have HF0 := Lib.hid (fun v (h : Env v) => first_any v h)
  have HLI := Lib.hid (fun v (h : Below w.heap.size w v) => light_any (hF.below h) len0 hL)
  clear hTD hM S0 w1 hF hL
  cases hli : lightF L with
  | false =>
    rw [hli] at HLI
    go_enter Tryz.func4, Tryz.ntmps4
    go_wp2_with fail
    refine (HF0.out _ HE.out).mono ?_
    rintro _ v1 ⟨rfl, hb⟩
    have HB1 := Lib.hid hb
    clear hb
    go_wp2_with (go_at_call 8; (with_reducible refine (HLI.out _ HB1.out).mono ?_); rintro _ v2 ⟨rfl, hb⟩; have HB2 := Lib.hid (HB1.out.trans (hb.mono HB1.out.size)); clear hb)
    refine (HF0.out _ (HE.out.on HB2.out)).mono ?_
    rintro _ v3 ⟨rfl, hb⟩
    have HB3 := Lib.hid (HB2.out.trans (hb.mono HB2.out.size))
    clear hb
    go_wp2
    go_ret
    exact ⟨rfl, HB3.out⟩
  | true =>
    obtain ⟨hl30, hl200⟩ := light_spec hli
    rw [hli] at HLI
    have HV := Lib.hid (show ∀ f ∈ L, f.2.2.size ≤ 1000000 from fun f hf => by have := hl200 f hf; omega)
    have HLE := Lib.hid (show L.length ≤ 1000 from by omega)
    clear hl30 hl200
    by_cases h15 : (a1.size : Int) > 1500
    · have h15' := h15
      go_enter Tryz.func4, Tryz.ntmps4
      go_wp2_with fail
      refine (HF0.out _ HE.out).mono ?_
      rintro _ v1 ⟨rfl, hb⟩
      have HB1 := Lib.hid hb
      clear hb
      go_wp2_with (go_at_call 8; (with_reducible refine (HLI.out _ HB1.out).mono ?_); rintro _ v2 ⟨rfl, hb⟩; have HB2 := Lib.hid (HB1.out.trans (hb.mono HB1.out.size)); clear hb)
      refine (HF0.out _ (HE.out.on HB2.out)).mono ?_
      rintro _ v3 ⟨rfl, hb⟩
      have HB3 := Lib.hid (HB2.out.trans (hb.mono HB2.out.size))
      clear hb
      go_wp2
      go_ret
      exact ⟨rfl, HB3.out⟩
    · have hs : a1.size ≤ 1000000 := by omega
      obtain ⟨x, pe, hp⟩ : ∃ x pe, parL a1 = (x, pe) := ⟨_, _, rfl⟩
      obtain ⟨a, ce, hc⟩ : ∃ a ce, canL L = (a, ce) := ⟨_, _, rfl⟩
      have hpc := parL_cases a1
      have hpv := parL_vals a1 hs
      have hpl := parL_len a1
      have hcc := canL_spec L
      have htx : txtL L = if (canL L).2 = 0 then (txt (canL L).1, 0) else (⟨#[]⟩, (canL L).2) := rfl
      have hti : titF (parL a1).1 = titF (parL a1).1 := rfl
      have hcd := @card_of L
      rw [hp] at hpc hpv hpl
      rw [hc] at hcc htx hcd
      simp only at hpc hpv hpl hcc htx hcd
      have HP := Lib.hid (fun v (h : Below w.heap.size w v) => cparse_on a1 hs x pe hp x.length rfl v (HE.out.on h))
      have HC := Lib.hid (fun v (h : Below w.heap.size w v) => ccanon_on len0 HL.out a ce hc a.length rfl (HF.out.below h) HLE.out HV.out (HE.out.on h))
      have ess : (a1.toList == a1.toList) = true := beq_self_eq_true _
      rcases hpc with ⟨rfl, hpt, hpi⟩ | ⟨rfl, rfl, hpi⟩
      · have HIS := Lib.hid (fun v (h : Env v) => is_on a1 hs true hpi v h)
        obtain ⟨m, hm⟩ : ∃ m, x.length = m := ⟨_, rfl⟩
        have HTX := Lib.hid (fun v {A : Option Addr} {cap b off : Nat} (h : Fv v A cap b off x) (hE : Env v) => text_on m hm a1 0 hpt h (by omega) hpv hE)
        rw [hm] at HP
        clear hpt hpi hpv hp hm
        by_cases hce : ce = 0
        · subst hce
          rw [if_pos rfl] at htx
          have hcrd := hcd rfl
          have HT := Lib.hid (fun v (h : Below w.heap.size w v) => text_on len0 HL.out (txt a) 0 htx (HF.out.below h) HLE.out HV.out (HE.out.on h))
          have hnum := card_nums hcrd
          have hcan := card_can hcrd
          have hbk := card_back hcrd
          obtain ⟨ma, hma⟩ : ∃ m, a.length = m := ⟨_, rfl⟩
          obtain ⟨tx, htxx⟩ : ∃ t, txt a = t := ⟨_, rfl⟩
          have HAL := Lib.hid hma
          rw [hma] at HC hnum
          rw [htxx] at HT hnum hbk
          have hvl : ∀ f ∈ a, f.2.2.size ≤ 1000000 := fun f hf => by
            have := may_size (hcrd.cnn f hf).1
            omega
          have HC2 := Lib.hid (fun v {A : Option Addr} {cap b off : Nat} (h : Fv v A cap b off a) (hE : Env v) => ccanon_on ma hma a 0 hcan ma hma h (by omega) hvl hE)
          have HP2 := Lib.hid (fun v (hE : Env v) => cparse_on tx (by omega) a 0 hbk ma hma v hE)
          have h9 : (tx.size : Int) ≤ 900 := by omega
          have h12 : (ma : Int) ≤ 12 := by omega
          clear htx hcrd hcan hbk hvl htxx hcc hcd hc hnum
          go_enter Tryz.func4, Tryz.ntmps4
          go_wp2_with fail
          refine (HF0.out _ HE.out).mono ?_
          rintro _ v1 ⟨rfl, hb⟩
          have HB1 := Lib.hid hb
          clear hb
          go_wp2_with (go_at_call 8; (with_reducible refine (HLI.out _ HB1.out).mono ?_); rintro _ v2 ⟨rfl, hb⟩; have HB2 := Lib.hid (HB1.out.trans (hb.mono HB1.out.size)); clear hb)
          go_wp2_with fail
          refine (HP.out _ HB2.out).mono ?_
          rintro _ v3 ⟨X1, X2, X3, rfl, hfx, hb⟩
          have HB3 := Lib.hid (HB2.out.trans (hb.mono HB2.out.size))
          have HFX := Lib.hid hfx
          clear hb hfx
          go_wp2_with fail
          refine (HTX.out _ HFX.out (HE.out.on HB3.out)).mono ?_
          rintro _ v4 ⟨rfl, hb⟩
          have HB4 := Lib.hid (HB3.out.trans (hb.mono HB3.out.size))
          clear hb
          go_wp2_with fail
          refine (HIS.out _ (HE.out.on HB4.out)).mono ?_
          rintro _ v5 ⟨rfl, hb⟩
          have HB5 := Lib.hid (HB4.out.trans (hb.mono HB4.out.size))
          clear hb
          go_wp2_with fail
          refine (HC.out _ HB5.out).mono ?_
          rintro _ v6 ⟨Y1, Y2, Y3, rfl, hfy, hb⟩
          have HB6 := Lib.hid (HB5.out.trans (hb.mono HB5.out.size))
          have HFY6 := Lib.hid hfy
          clear hb hfy
          go_wp2_with fail
          refine (HT.out _ HB6.out).mono ?_
          rintro _ v7 ⟨rfl, hb⟩
          have HB7 := Lib.hid (HB6.out.trans (hb.mono HB6.out.size))
          have HFY7 := Lib.hid (HFY6.out.below hb)
          clear hb
          go_wp2_with fail
          refine (HC2.out _ HFY7.out (HE.out.on HB7.out)).mono ?_
          rintro _ v8 ⟨Z1, Z2, Z3, rfl, hfz, hb⟩
          have HB8 := Lib.hid (HB7.out.trans (hb.mono HB7.out.size))
          have HFY8 := Lib.hid (HFY7.out.below hb)
          have HFZ8 := Lib.hid hfz
          clear hb hfz
          go_wp2_with fail
          refine (HP2.out _ (HE.out.on HB8.out)).mono ?_
          rintro _ v9 ⟨U1, U2, U3, rfl, hfu, hb⟩
          have HB9 := Lib.hid (HB8.out.trans (hb.mono HB8.out.size))
          have HFY9 := Lib.hid (HFY8.out.below hb)
          have HFZ9 := Lib.hid (HFZ8.out.below hb)
          have HFU9 := Lib.hid hfu
          clear hb hfu
          go_wp2_with fail
          refine (fields_true HFY9.out HFZ9.out _ HAL.out (by omega)).mono ?_
          rintro _ v10 ⟨rfl, hb⟩
          have HB10 := Lib.hid (HB9.out.trans (hb.mono HB9.out.size))
          have HFY10 := Lib.hid (HFY9.out.below hb)
          have HFU10 := Lib.hid (HFU9.out.below hb)
          clear hb
          go_wp2_with fail
          refine (fields_true HFY10.out HFU10.out _ HAL.out (by omega)).mono ?_
          rintro _ v11 ⟨rfl, hb⟩
          have HB11 := Lib.hid (HB10.out.trans (hb.mono HB10.out.size))
          clear hb
          go_wp2
          go_ret
          exact ⟨rfl, HB11.out⟩
        · rw [if_neg hce] at htx
          obtain ⟨_, rfl⟩ : ce ≠ 0 ∧ a = [] := by
            rcases hcc with ⟨h, _⟩ | h
            · exact absurd h hce
            · exact h
          have HT := Lib.hid (fun v (h : Below w.heap.size w v) => text_on len0 HL.out ⟨#[]⟩ ce htx (HF.out.below h) HLE.out HV.out (HE.out.on h))
          have g1 : (ce != ce) = false := by simp
          have g2 : (ce != 0) = true := by simpa using hce
          have g3 : (ce == ce) = true := by simp
          simp only [List.length_nil] at HC
          clear htx hcc hcd hc hce
          go_enter Tryz.func4, Tryz.ntmps4
          go_wp2_with fail
          refine (HF0.out _ HE.out).mono ?_
          rintro _ v1 ⟨rfl, hb⟩
          have HB1 := Lib.hid hb
          clear hb
          go_wp2_with (go_at_call 8; (with_reducible refine (HLI.out _ HB1.out).mono ?_); rintro _ v2 ⟨rfl, hb⟩; have HB2 := Lib.hid (HB1.out.trans (hb.mono HB1.out.size)); clear hb)
          go_wp2_with fail
          refine (HP.out _ HB2.out).mono ?_
          rintro _ v3 ⟨X1, X2, X3, rfl, hfx, hb⟩
          have HB3 := Lib.hid (HB2.out.trans (hb.mono HB2.out.size))
          have HFX := Lib.hid hfx
          clear hb hfx
          go_wp2_with fail
          refine (HTX.out _ HFX.out (HE.out.on HB3.out)).mono ?_
          rintro _ v4 ⟨rfl, hb⟩
          have HB4 := Lib.hid (HB3.out.trans (hb.mono HB3.out.size))
          clear hb
          go_wp2_with fail
          refine (HIS.out _ (HE.out.on HB4.out)).mono ?_
          rintro _ v5 ⟨rfl, hb⟩
          have HB5 := Lib.hid (HB4.out.trans (hb.mono HB4.out.size))
          clear hb
          go_wp2_with fail
          refine (HC.out _ HB5.out).mono ?_
          rintro _ v6 ⟨Y1, Y2, Y3, rfl, hfy, hb⟩
          have HB6 := Lib.hid (HB5.out.trans (hb.mono HB5.out.size))
          have HFY6 := Lib.hid hfy
          clear hb hfy
          go_wp2_with fail
          refine (HT.out _ HB6.out).mono ?_
          rintro _ v7 ⟨rfl, hb⟩
          have HB7 := Lib.hid (HB6.out.trans (hb.mono HB6.out.size))
          have HFY7 := Lib.hid (HFY6.out.below hb)
          clear hb
          go_wp2
          go_ret
          exact ⟨rfl, HB7.out⟩
      · have HIS := Lib.hid (fun v (h : Env v) => is_on a1 hs false hpi v h)
        have HTT := Lib.hid (fun v (h : Env v) => title_on a1 hs ⟨#[]⟩ (by rw [hp]; rfl) v h)
        simp only [List.length_nil] at HP
        clear hpi hpv hp
        by_cases hce : ce = 0
        · subst hce
          rw [if_pos rfl] at htx
          have hcrd := hcd rfl
          have HT := Lib.hid (fun v (h : Below w.heap.size w v) => text_on len0 HL.out (txt a) 0 htx (HF.out.below h) HLE.out HV.out (HE.out.on h))
          have hnum := card_nums hcrd
          have hcan := card_can hcrd
          have hbk := card_back hcrd
          obtain ⟨ma, hma⟩ : ∃ m, a.length = m := ⟨_, rfl⟩
          obtain ⟨tx, htxx⟩ : ∃ t, txt a = t := ⟨_, rfl⟩
          have HAL := Lib.hid hma
          rw [hma] at HC hnum
          rw [htxx] at HT hnum hbk
          have hvl : ∀ f ∈ a, f.2.2.size ≤ 1000000 := fun f hf => by
            have := may_size (hcrd.cnn f hf).1
            omega
          have HC2 := Lib.hid (fun v {A : Option Addr} {cap b off : Nat} (h : Fv v A cap b off a) (hE : Env v) => ccanon_on ma hma a 0 hcan ma hma h (by omega) hvl hE)
          have HP2 := Lib.hid (fun v (hE : Env v) => cparse_on tx (by omega) a 0 hbk ma hma v hE)
          have h9 : (tx.size : Int) ≤ 900 := by omega
          have h12 : (ma : Int) ≤ 12 := by omega
          clear htx hcrd hcan hbk hvl htxx hcc hcd hc hnum
          go_enter Tryz.func4, Tryz.ntmps4
          go_wp2_with fail
          refine (HF0.out _ HE.out).mono ?_
          rintro _ v1 ⟨rfl, hb⟩
          have HB1 := Lib.hid hb
          clear hb
          go_wp2_with (go_at_call 8; (with_reducible refine (HLI.out _ HB1.out).mono ?_); rintro _ v2 ⟨rfl, hb⟩; have HB2 := Lib.hid (HB1.out.trans (hb.mono HB1.out.size)); clear hb)
          go_wp2_with fail
          refine (HP.out _ HB2.out).mono ?_
          rintro _ v3 ⟨X1, X2, X3, rfl, hfx, hb⟩
          have HB3 := Lib.hid (HB2.out.trans (hb.mono HB2.out.size))
          have HFX := Lib.hid hfx
          clear hb hfx
          go_wp2_with fail
          refine (HIS.out _ (HE.out.on HB3.out)).mono ?_
          rintro _ v4 ⟨rfl, hb⟩
          have HB4 := Lib.hid (HB3.out.trans (hb.mono HB3.out.size))
          clear hb
          go_wp2_with fail
          refine (HTT.out _ (HE.out.on HB4.out)).mono ?_
          rintro _ v5 ⟨rfl, hb⟩
          have HB5 := Lib.hid (HB4.out.trans (hb.mono HB4.out.size))
          clear hb
          go_wp2_with fail
          refine (HC.out _ HB5.out).mono ?_
          rintro _ v6 ⟨Y1, Y2, Y3, rfl, hfy, hb⟩
          have HB6 := Lib.hid (HB5.out.trans (hb.mono HB5.out.size))
          have HFY6 := Lib.hid hfy
          clear hb hfy
          go_wp2_with fail
          refine (HT.out _ HB6.out).mono ?_
          rintro _ v7 ⟨rfl, hb⟩
          have HB7 := Lib.hid (HB6.out.trans (hb.mono HB6.out.size))
          have HFY7 := Lib.hid (HFY6.out.below hb)
          clear hb
          go_wp2_with fail
          refine (HC2.out _ HFY7.out (HE.out.on HB7.out)).mono ?_
          rintro _ v8 ⟨Z1, Z2, Z3, rfl, hfz, hb⟩
          have HB8 := Lib.hid (HB7.out.trans (hb.mono HB7.out.size))
          have HFY8 := Lib.hid (HFY7.out.below hb)
          have HFZ8 := Lib.hid hfz
          clear hb hfz
          go_wp2_with fail
          refine (HP2.out _ (HE.out.on HB8.out)).mono ?_
          rintro _ v9 ⟨U1, U2, U3, rfl, hfu, hb⟩
          have HB9 := Lib.hid (HB8.out.trans (hb.mono HB8.out.size))
          have HFY9 := Lib.hid (HFY8.out.below hb)
          have HFZ9 := Lib.hid (HFZ8.out.below hb)
          have HFU9 := Lib.hid hfu
          clear hb hfu
          go_wp2_with fail
          refine (fields_true HFY9.out HFZ9.out _ HAL.out (by omega)).mono ?_
          rintro _ v10 ⟨rfl, hb⟩
          have HB10 := Lib.hid (HB9.out.trans (hb.mono HB9.out.size))
          have HFY10 := Lib.hid (HFY9.out.below hb)
          have HFU10 := Lib.hid (HFU9.out.below hb)
          clear hb
          go_wp2_with fail
          refine (fields_true HFY10.out HFU10.out _ HAL.out (by omega)).mono ?_
          rintro _ v11 ⟨rfl, hb⟩
          have HB11 := Lib.hid (HB10.out.trans (hb.mono HB10.out.size))
          clear hb
          go_wp2
          go_ret
          exact ⟨rfl, HB11.out⟩
        · rw [if_neg hce] at htx
          obtain ⟨_, rfl⟩ : ce ≠ 0 ∧ a = [] := by
            rcases hcc with ⟨h, _⟩ | h
            · exact absurd h hce
            · exact h
          have HT := Lib.hid (fun v (h : Below w.heap.size w v) => text_on len0 HL.out ⟨#[]⟩ ce htx (HF.out.below h) HLE.out HV.out (HE.out.on h))
          have g1 : (ce != ce) = false := by simp
          have g2 : (ce != 0) = true := by simpa using hce
          have g3 : (ce == ce) = true := by simp
          simp only [List.length_nil] at HC
          clear htx hcc hcd hc hce
          go_enter Tryz.func4, Tryz.ntmps4
          go_wp2_with fail
          refine (HF0.out _ HE.out).mono ?_
          rintro _ v1 ⟨rfl, hb⟩
          have HB1 := Lib.hid hb
          clear hb
          go_wp2_with (go_at_call 8; (with_reducible refine (HLI.out _ HB1.out).mono ?_); rintro _ v2 ⟨rfl, hb⟩; have HB2 := Lib.hid (HB1.out.trans (hb.mono HB1.out.size)); clear hb)
          go_wp2_with fail
          refine (HP.out _ HB2.out).mono ?_
          rintro _ v3 ⟨X1, X2, X3, rfl, hfx, hb⟩
          have HB3 := Lib.hid (HB2.out.trans (hb.mono HB2.out.size))
          have HFX := Lib.hid hfx
          clear hb hfx
          go_wp2_with fail
          refine (HIS.out _ (HE.out.on HB3.out)).mono ?_
          rintro _ v4 ⟨rfl, hb⟩
          have HB4 := Lib.hid (HB3.out.trans (hb.mono HB3.out.size))
          clear hb
          go_wp2_with fail
          refine (HTT.out _ (HE.out.on HB4.out)).mono ?_
          rintro _ v5 ⟨rfl, hb⟩
          have HB5 := Lib.hid (HB4.out.trans (hb.mono HB4.out.size))
          clear hb
          go_wp2_with fail
          refine (HC.out _ HB5.out).mono ?_
          rintro _ v6 ⟨Y1, Y2, Y3, rfl, hfy, hb⟩
          have HB6 := Lib.hid (HB5.out.trans (hb.mono HB5.out.size))
          have HFY6 := Lib.hid hfy
          clear hb hfy
          go_wp2_with fail
          refine (HT.out _ HB6.out).mono ?_
          rintro _ v7 ⟨rfl, hb⟩
          have HB7 := Lib.hid (HB6.out.trans (hb.mono HB6.out.size))
          have HFY7 := Lib.hid (HFY6.out.below hb)
          clear hb
          go_wp2
          go_ret
          exact ⟨rfl, HB7.out⟩
end Go.Proofs.YtdfalfmeejgcoaaGreatDoor
/- A law's row over listed variables that reads one of the library's besides: the world's shape is handed on. -/
namespace Go.Proofs.YtdfalfmeejgcoaaGreatDoor
open Go.ChangeShapes Go.WideShapes Go.RowKit
variable {H : Type} {enc : TypeId × Value → H}
theorem handed_and_shaped {a : Assume} {C : Checked} {os : Os} {f : FuncId} {fn : Func} {s : ChangeSpec} {conds : List PathCond} {apart fresh handsOn again : Bool} {X : World → Array Value → Prop}
    (hX : ∀ (w w' : World) (args : Array Value), w.heap = w'.heap → X w args → X w' args)
    (own : ownKnob C.prog.godebug = none) (started : os.Started) (noInit : C.prog.inits.idxOf? f = none) (hfn : C.prog.funcs[f]? = some fn)
    (witness : ∃ (w : World) (tape : Tape) (i : Input), w.os = os ∧ (w.forCall tape i).Shaped C.prog ∧ i.vars = [] ∧ Input.okWide C.prog (w.forCall tape i) .any w.heap.size f i ∧
      ((s.pre enc C.prog fn conds apart (w.forCall tape i).memory i.args ∧ X (w.forCall tape i).memory i.args) ∧ sizedMet enc C.prog fn (OpenSpec.ofChange s) apart (w.forCall tape i).memory i.args) ∧ a.holds C.prog (lone (Frame.enter C.prog f i.args .normal) [] (w.forCall tape i)))
    (contract : ∀ (W : World) (base : Nat) (args : Array Value) (ds gs : List (DataW H)) (before : List MemPlace),
      (∀ (j : Nat) t v, fn.params[j]? = some t → args[j]? = some v → Value.okWide C.prog W .any base t v) →
      DataW.Whole enc C.prog fn.params.toList s.vars apart W args.toList ds gs before →
      X W args → W.ShapedOpen C.prog →
      Calls C.prog f args W fun e W' => ∃ v, e = .returned v ∧ s.post enc C.prog fn apart fresh handsOn again W args v W') :
    ReturnsInHanded a C os f .any (fun w args => (s.pre enc C.prog fn conds apart w args ∧ X w args) ∧ sizedMet enc C.prog fn (OpenSpec.ofChange s) apart w args) (s.post enc C.prog fn apart fresh handsOn again) := by
  refine returnsInHanded_of_calls own started noInit witness ?_
  intro w tape i _ hsh _ hok hpre _
  obtain ⟨_, _, _, fn', hfn', _, _, _, _, hval⟩ := hok
  have e : fn' = fn := Option.some.inj (hfn'.symm.trans hfn)
  subst e
  obtain ⟨⟨⟨ds, gs, before, hw, _⟩, hx⟩, _⟩ := hpre
  have hw' := DataW.Whole.of_heap (w' := w.forCall tape i) (by rfl) hw
  refine (contract (w.forCall tape i) w.heap.size i.args ds gs before hval hw' (hX _ _ _ (by rfl) hx) hsh).mono fun e W' ⟨v, he, hp⟩ => ?_
  subst he
  exact ChangeSpec.post_blind hp
set_option maxRecDepth 100000 in
theorem mx_of {W : World} (h : W.ShapedOpen Tryz.prog) : Mx W :=
  cell_of_shapedOpen_int h (g := 0) (t := 3) (zero := #[.int .i64 0]) (of_decide_eq_true (by kernel_rfl)) (by kernel_rfl) rfl (by kernel_rfl) (by kernel_rfl) Tryz.underlying3
end Go.Proofs.YtdfalfmeejgcoaaGreatDoor
namespace Go.Proofs.YtdfalfmeejgcoaaGreatDoor
open Go.ChangeShapes Go.WideShapes Go.RowKit
abbrev laidL : List (String × DataW Unit) := [("math/bits.deBruijn32tab", Rows.laid_math_bits_deBruijn32tab), ("math/bits.deBruijn64tab", Rows.laid_math_bits_deBruijn64tab), ("internal/strconv.uint64pow10", Rows.laid_internal_strconv_uint64pow10), ("unicode/utf8.acceptRanges", Rows.laid_unicode_utf8_acceptRanges), ("unicode/utf8.first", Rows.laid_unicode_utf8_first)]
set_option maxRecDepth 100000 in
theorem door_met (os : Os) (args : Array Value) : laidMetH Tryz.prog laidL ((World.laidAll Tryz.prog os laidL).forCall (fun _ _ => 0) ⟨#[], args, []⟩).memory := by
  rw [MakeChecks.laidMetH_plain _ _ _ (by kernel_rfl)]; exact laidMet_laidAll _ (by kernel_rfl) (by kernel_rfl)
theorem acc_eq : (Rows.laid_unicode_utf8_acceptRanges : DataW Unit) = Lib.acceptData := by kernel_rfl
theorem fst_eq : Rows.laid_unicode_utf8_first = Lib.firstData := Pinned.utf8First_eq
theorem pow_eq : (Rows.laid_internal_strconv_uint64pow10 : DataW Unit) = Lib.tabData .u64 Lib.pow10Tab := by kernel_rfl
set_option maxRecDepth 100000 in
theorem facts {W : World} (h : laidMetH Tryz.prog laidL W) : Tabs W ∧ Day.Tab W.heap.size W := by
  rw [MakeChecks.laidMetH_plain _ _ _ (by kernel_rfl)] at h
  have h1 : laidMet Tryz.prog [("internal/strconv.uint64pow10", Lib.tabData .u64 Lib.pow10Tab), ("unicode/utf8.acceptRanges", Lib.acceptData), ("unicode/utf8.first", Lib.firstData)] W := by rw [← acc_eq, ← fst_eq, ← pow_eq]; exact h.tail.tail
  have h2 : laidMet Tryz.prog [("unicode/utf8.acceptRanges", Lib.acceptData), ("unicode/utf8.first", Lib.firstData)] W := h1.tail
  exact ⟨utf8Tabs_of_readsT (U8Types.of196 Tryz.lays196) ⟨by kernel_rfl, by kernel_rfl, by kernel_rfl, by kernel_rfl, by kernel_rfl, by kernel_rfl, by kernel_rfl⟩ (Lib.laidMet.reads h2 (.tail _ (.head _))) (Lib.laidMet.reads h2 (.head _)),
    Lib.tabBelow_of_tabIs (Lib.tabIs_of_head (g := 3) (t := 147) (e := 94) (n := 20) (by kernel_rfl) (by kernel_rfl) Tryz.underlying147 Tryz.underlying94 (by kernel_rfl) (by kernel_rfl) h1)⟩
end Go.Proofs.YtdfalfmeejgcoaaGreatDoor
