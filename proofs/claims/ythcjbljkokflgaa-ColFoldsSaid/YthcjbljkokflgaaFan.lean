/- slices.symMerge, at items: where both runs have two or more. -/
import Derived.Test.YthcjbljkokflgaaFam
set_option linter.unnecessarySimpa false
namespace Go.Proofs.Ythcjbljkokflgaa
open Go.RowKit
open Go.Lib hiding intOf
open Go.Sort Go.Proofs
set_option linter.unusedVariables false
set_option linter.unusedSimpArgs false
set_option maxRecDepth 1000000
section
variable {α : Type} [Inhabited α]
theorem sym_cross {key : α → Int} {Rl : α → α → Prop} (d : Array α) (Pr L Q T : List α) (h : d.toList = Pr ++ (L ++ (Q ++ T))) (hL : Ris key Rl L) (hQ : Ris key Rl Q) (a m b n s0 r0 s : Nat) (ha : Pr.length = a) (hm : a + L.length = m) (hb : m + Q.length = b)
    (f1 : a ≤ s0) (f2 : s0 ≤ s) (f3 : s ≤ r0) (f4 : r0 ≤ m) (f5 : m ≤ n - r0) (f6 : n - s0 ≤ b) (f7 : s0 = a ∨ n - s0 = b) (f8 : r0 = m ∨ n - r0 = m) (f9 : r0 ≤ n)
    (h1 : s = s0 ∨ key d[s - 1]! ≤ key d[n - s]!) (h2 : s = r0 ∨ key d[n - 1 - s]! < key d[s]!) :
    (∀ x ∈ L.take (s - a), ∀ y ∈ Q.drop (n - s - m), key x ≤ key y) ∧ (∀ x ∈ L.drop (s - a), ∀ y ∈ Q.take (n - s - m), key y < key x) := by
  have h' : d.toList = (Pr ++ L) ++ (Q ++ T) := by rw [h]; simp
  have hml : (Pr ++ L).length = m := by rw [List.length_append, ha]; exact hm
  have ML := fun s t h1 h2 h3 => run_mono (k := key) d Pr L (Q ++ T) h hL s t h1 h2 h3
  have MQ := fun s t h1 h2 h3 => run_mono (k := key) d (Pr ++ L) Q T h' hQ s t h1 h2 h3
  have AL := fun t (ht : t < L.length) => arr_at d Pr L (Q ++ T) h t ht
  have AQ := fun t (ht : t < Q.length) => arr_at d (Pr ++ L) Q T h' t ht
  rw [ha] at ML AL
  rw [hml] at MQ AQ
  constructor
  · intro x hx y hy
    obtain ⟨t, e1, e2, rfl⟩ := mem_take_at hx
    obtain ⟨u, e3, e4, rfl⟩ := mem_drop_at hy
    rw [← AL t e2, ← AQ u e4]
    rcases h1 with h1 | h1
    · rcases f7 with f7 | f7 <;> omega
    · have c1 := ML (a + t) (s - 1) (by omega) (by omega) (by omega)
      have c2 := MQ (n - s) (m + u) (by omega) (by omega) (by omega)
      omega
  · intro x hx y hy
    obtain ⟨t, e1, e2, rfl⟩ := mem_drop_at hx
    obtain ⟨u, e3, e4, rfl⟩ := mem_take_at hy
    rw [← AL t e2, ← AQ u e4]
    rcases h2 with h2 | h2
    · rcases f8 with f8 | f8 <;> omega
    · have c1 := ML s (a + t) (by omega) (by omega) (by omega)
      have c2 := MQ (m + u) (n - 1 - s) (by omega) (by omega) (by omega)
      omega
set_option maxHeartbeats 32000000 in
theorem symC_any {P : Program} {k : Nat} (B : Bo P k) (enc : α → List Value) (blk off cap : Nat) (d0 : Array α) (w0 : World) (R : RowK enc k w0 blk off d0) (key : α → Int) (Rl : α → α → Prop) (cf : α → α → Int) (hcf : ∀ x y, cf x y < 0 ↔ key x < key y) (g : Nat) (cb : Array Value) (eg : ∀ args w, (callFunc g args).run P w = .ok (.enter g args) w) (hcmp : CmpLays P g cb enc k cf blk off d0.size w0) (N : Nat) (hIH : ∀ (d : Array α) (w : World) (hs : d0.size = d.size) (S : SWK enc k w0 blk off d w) (Pr L Q T : List α) (h : d.toList = Pr ++ (L ++ (Q ++ T))), L.length + Q.length < N → 0 < L.length → 0 < Q.length → Ris key Rl L → Ris key Rl Q → (∀ x ∈ L, ∀ y ∈ Q, Rl x y) → ∀ (sz : Nat) (az mz bz : Int), sz = d.size → az = (Pr.length : Int) → mz = ((Pr.length + L.length : Nat) : Int) → bz = ((Pr.length + L.length + Q.length : Nat) : Int) → Calls P 84 #[.slice (some ⟨blk, off, none⟩) sz cap, .int .i64 az, .int .i64 mz, .int .i64 bz, .func (.func g) #[] cb] w (SymQ key Rl enc k w0 blk off d Pr T (L ++ Q))) (d : Array α) (w : World) (hs : d0.size = d.size) (S0 : SWK enc k w0 blk off d w) (hsz : d.size < 1000000000) (Pr L Q T : List α) (h : d.toList = Pr ++ (L ++ (Q ++ T))) (hL : Ris key Rl L) (hQ : Ris key Rl Q) (hL2 : 2 ≤ L.length) (hQ2 : 2 ≤ Q.length) (hN : L.length + Q.length = N) (ht : ∀ x ∈ L, ∀ y ∈ Q, Rl x y) (a m b : Nat) (ha : Pr.length = a) (hm : a + L.length = m) (hb : m + Q.length = b) :
    Calls P 84 #[.slice (some ⟨blk, off, none⟩) d.size cap, .int .i64 a, .int .i64 m, .int .i64 b, .func (.func g) #[] cb] w (SymQ key Rl enc k w0 blk off d Pr T (L ++ Q)) := by
  have hlen : d.size = a + (L.length + (Q.length + T.length)) := by rw [← Array.length_toList, h]; simp only [List.length_append]; omega
  have HCR := Lib.hid (fun n s0 r0 s => sym_cross d Pr L Q T h hL hQ a m b n s0 r0 s ha hm hb)
  have HIH := Lib.hid hIH
  have HRO := Lib.hid (fun (w : World) (S : SWK enc k w0 blk off d w) (Pr L Q T : List α) (h : d.toList = Pr ++ (L ++ (Q ++ T))) (h1 : 0 < L.length) (h2 : 0 < Q.length) (az mz bz : Int) => rotate_any B enc blk off cap d0 w0 R (.func (.func g) #[] cb) d w hs S (by omega) Pr L Q T h h1 h2 az mz bz)
  have HH := Lib.hid h
  have HP := Lib.hid ha
  have HLm := Lib.hid hm
  have HQm := Lib.hid hb
  have HNN := Lib.hid hN
  have HT := Lib.hid ht
  have HRL := Lib.hid hL
  have HRQ := Lib.hid hQ
  have HS0 : Aside _ := S0
  have HC : Aside _ := hcmp
  have bb : b ≤ d.size := by omega
  have b0 : a + 2 ≤ m := by omega
  have b00 : m + 2 ≤ b := by omega
  have hma : ((m : Int) - (a : Int) == 1) = false := by simp; omega
  have hbm : ((b : Int) - (m : Int) == 1) = false := by simp; omega
  have HCF := Lib.hid hcf
  have eRO := B.e_ro
  have eSM := B.e_sm
  obtain ⟨mid, hmid⟩ : ∃ q, (a + b) / 2 = q := ⟨_, rfl⟩
  obtain ⟨p, hp⟩ : ∃ p, mid + m = p + 1 := ⟨mid + m - 1, by omega⟩
  obtain ⟨n, hn⟩ : ∃ n, p + 1 = n := ⟨_, rfl⟩
  have emz : ((a : Int) + (b : Int)) / 2 = (mid : Int) := by omega
  have enz : (mid : Int) + (m : Int) = (n : Int) := by omega
  have epz : (n : Int) - 1 = (p : Int) := by omega
  have bmid : a < mid := by omega
  have bmid2 : mid < b := by omega
  have HMID := Lib.hid (show mid + m = n ∧ (a + b) / 2 = mid ∧ p + 1 = n from ⟨by omega, hmid, hn⟩)
  have bn : n ≤ 2 * d.size := by omega
  have bn2 : m ≤ n := by omega
  clear S0 hcmp h ha hL hQ ht hlen hcf hIH hL2 hQ2 hN hmid hp hn hm hb
  have mixed := B.mixed; have t0 := B.t0; have a0 := B.a0; have z0 := B.z0; have v0 := B.v0; have t1 := B.t1; have a1 := B.a1; have z1 := B.z1; have v1 := B.v1; have t2 := B.t2; have a2 := B.a2; have z2 := B.z2; have v2 := B.v2; have t3 := B.t3; have a3 := B.a3; have z3 := B.z3; have v3 := B.v3; have t4 := B.t4; have a4 := B.a4; have z4 := B.z4; have v4 := B.v4; have t5 := B.t5; have a5 := B.a5; have z5 := B.z5; have v5 := B.v5; have aE := B.aE; have zE := B.zE
  by_cases hside : mid < m
  · skip
    have hsz1 : (m : Int) > (mid : Int) := by omega
    obtain ⟨s0, es0⟩ : ∃ q, n - b = q := ⟨_, rfl⟩
    obtain ⟨r0, er0⟩ : ∃ q, mid = q := ⟨_, rfl⟩
    have ez0 : (n : Int) - (b : Int) = (s0 : Int) := by have := HMID.out; omega
    have FF := Lib.hid (show a ≤ s0 ∧ s0 ≤ r0 ∧ r0 ≤ m ∧ m ≤ n - r0 ∧ n - s0 ≤ b ∧ (s0 = a ∨ n - s0 = b) ∧ (r0 = m ∨ n - r0 = m) ∧ r0 ≤ n by have := HMID.out; omega)
    have g1 : a ≤ s0 := FF.out.1
    have g2 : r0 ≤ m := FF.out.2.2.1
    have g3 : s0 ≤ r0 := FF.out.2.1
    have g4 : m + r0 ≤ n := by have := FF.out; omega
    have g5 : n ≤ b + s0 := by have := FF.out; omega
    have g6 : r0 = mid := er0.symm
    have G6 := Lib.hid g6
    clear g6 es0 er0
    go_enter B.f_sm, Try.ntmps84
    go_wp2
    go_loopw [20, 21] (fun si sj wr => ∃ (i j : Nat), si = .int .i64 i ∧ sj = .int .i64 j ∧ s0 ≤ i ∧ i ≤ j ∧ j ≤ r0 ∧ Aside (SWK enc k w0 blk off d wr) ∧ Hid (i = s0 ∨ key d[i - 1]! ≤ key d[n - i]!) ∧ Hid (j = r0 ∨ key d[n - 1 - j]! < key d[j]!)) (fun si sj _ => (intOf sj).toNat - (intOf si).toNat)
    case atStart => exact ⟨s0, r0, by first | rfl | rw [← ez0], by rw [G6.out], Nat.le_refl _, g3, Nat.le_refl _, HS0, (.inl rfl), (.inl rfl)⟩
    case round =>
      obtain ⟨i, j, rfl, rfl, hmi, hij, hjb, S1, HI, HJ⟩ := hrel
      clear HS0
      by_cases hlt : i < j
      · have hltz : (i : Int) < (j : Int) := by omega
        obtain ⟨hh, ehh⟩ : ∃ q, (i + j) / 2 = q := ⟨_, rfl⟩
        have ehz : ((i : Int) + (j : Int)) / 2 = (hh : Int) := by omega
        have b1 : i ≤ hh := by omega
        have b2 : hh < j := by omega
        obtain ⟨pc, hpc⟩ : ∃ q, n - 1 - hh = q := ⟨_, rfl⟩
        have epc : (p : Int) - (hh : Int) = (pc : Int) := by have := HMID.out; omega
        have b3 : pc < d.size := by omega
        have b4 : hh < d.size := by omega
        have HPC := Lib.hid (show pc + 1 = n - hh by omega)
        clear ehh hpc
        by_cases hv : cf d[pc]! d[hh]! < 0
        · have HV := Lib.hid hv
          clear hv
          go_wp2_with fail
          have ea44 : ((pc : Int)).toNat = pc := by omega
          have pa44 : (0 : Int) ≤ (pc : Int) := by omega
          have ba44 : (pc : Int) < (d.size : Int) := by omega
          have ra44 : IntKind.i64.wrap ((pc : Int)) = (pc : Int) := by rw [IntKind.wrap_i64]; omega
          have ec44 : ((hh : Int)).toNat = hh := by omega
          have pc44 : (0 : Int) ≤ (hh : Int) := by omega
          have bc44 : (hh : Int) < (d.size : Int) := by omega
          have rc44 : IntKind.i64.wrap ((hh : Int)) = (hh : Int) := by rw [IntKind.wrap_i64]; omega
          obtain ⟨x44, hx44⟩ : ∃ x, x = d[pc]! := ⟨_, rfl⟩
          obtain ⟨y44, hy44⟩ : ∃ x, x = d[hh]! := ⟨_, rfl⟩
          have l44a := S1.out.ld R (by omega) P (pc) (by omega)
          have l44b := S1.out.ld R (by omega) P (hh) (by omega)
          rw [← hx44] at l44a
          rw [← hy44] at l44b
          have hc44 := S1.out.cmp HC.out (by omega) x44 y44
          have hv44 : cf x44 y44 < 0 := by rw [hx44, hy44]; exact (by have := HV.out; omega)
          have hd44 : decide (cf x44 y44 < 0) = true := decide_eq_true hv44
          clear hx44 hy44
          go_wp2_with fail
          go_quiet_grown (first | (go_at_fn g; refine Calls.grown_of (hc44 _ _)))
          have S2 : Aside (SWK enc k w0 blk off d (grow (wr.drewN nq) osq)) := S1.out.grown nq osq
          clear l44a l44b hc44 S1
          generalize grow (wr.drewN nq) osq = w2 at S2 ⊢
          clear nq osq hv44
          have HJ2 := Lib.hid (show hh = r0 ∨ key d[n - 1 - hh]! < key d[hh]! from .inr (by
            rw [show n - 1 - hh = pc by have := HPC.out; omega]
            exact (HCF.out _ _).1 HV.out))
          clear HV
          go_wp2
          go_roundw
          case rel => exact ⟨i, hh, rfl, rfl, hmi, by omega, by omega, S2, HI, HJ2⟩
          case measure => simp [intOf]; omega
        · have HV := Lib.hid hv
          clear hv
          go_wp2_with fail
          have ea44 : ((pc : Int)).toNat = pc := by omega
          have pa44 : (0 : Int) ≤ (pc : Int) := by omega
          have ba44 : (pc : Int) < (d.size : Int) := by omega
          have ra44 : IntKind.i64.wrap ((pc : Int)) = (pc : Int) := by rw [IntKind.wrap_i64]; omega
          have ec44 : ((hh : Int)).toNat = hh := by omega
          have pc44 : (0 : Int) ≤ (hh : Int) := by omega
          have bc44 : (hh : Int) < (d.size : Int) := by omega
          have rc44 : IntKind.i64.wrap ((hh : Int)) = (hh : Int) := by rw [IntKind.wrap_i64]; omega
          obtain ⟨x44, hx44⟩ : ∃ x, x = d[pc]! := ⟨_, rfl⟩
          obtain ⟨y44, hy44⟩ : ∃ x, x = d[hh]! := ⟨_, rfl⟩
          have l44a := S1.out.ld R (by omega) P (pc) (by omega)
          have l44b := S1.out.ld R (by omega) P (hh) (by omega)
          rw [← hx44] at l44a
          rw [← hy44] at l44b
          have hc44 := S1.out.cmp HC.out (by omega) x44 y44
          have hv44 : ¬ cf x44 y44 < 0 := by rw [hx44, hy44]; exact (by have := HV.out; omega)
          have hd44 : decide (cf x44 y44 < 0) = false := decide_eq_false hv44
          clear hx44 hy44
          go_wp2_with fail
          go_quiet_grown (first | (go_at_fn g; refine Calls.grown_of (hc44 _ _)))
          have S2 : Aside (SWK enc k w0 blk off d (grow (wr.drewN nq) osq)) := S1.out.grown nq osq
          clear l44a l44b hc44 S1
          generalize grow (wr.drewN nq) osq = w2 at S2 ⊢
          clear nq osq hv44
          have HI2 := Lib.hid (show hh + 1 = s0 ∨ key d[hh + 1 - 1]! ≤ key d[n - (hh + 1)]! from .inr (by
            rw [show n - (hh + 1) = pc by have := HPC.out; omega, Nat.add_sub_cancel]
            have e1 : ¬ key d[pc]! < key d[hh]! := fun e => by have e3 := HV.out; have := (HCF.out _ _).2 e; omega
            omega))
          clear HV
          go_wp2
          go_roundw
          case rel => exact ⟨hh + 1, j, by go_num, rfl, by omega, by omega, hjb, S2, HI2, HJ⟩
          case measure => simp [intOf]; omega
      · obtain rfl : j = i := by omega
        have hnlt : ¬ (j : Int) < (j : Int) := by omega
        obtain ⟨H1, H2⟩ := HCR.out n s0 r0 j FF.out.1 hmi hjb FF.out.2.2.1 FF.out.2.2.2.1 FF.out.2.2.2.2.1 FF.out.2.2.2.2.2.1 FF.out.2.2.2.2.2.2.1 FF.out.2.2.2.2.2.2.2 HI.out HJ.out
        obtain ⟨e, he⟩ : ∃ q, n - j = q := ⟨_, rfl⟩
        rw [he] at H1 H2
        have ee : (n : Int) - (j : Int) = (e : Int) := by have := FF.out; omega
        have c1 : a ≤ j := by omega
        have c2 : j ≤ m := by omega
        have c3 : m ≤ e := by have := FF.out; omega
        have c4 : e ≤ b := by have := FF.out; omega
        have c5 : e + j = mid + m := by have := FF.out; have := HMID.out; omega
        obtain ⟨L1, eL1⟩ : ∃ l, L.take (j - a) = l := ⟨_, rfl⟩
        obtain ⟨L2, eL2⟩ : ∃ l, L.drop (j - a) = l := ⟨_, rfl⟩
        obtain ⟨Q1, eQ1⟩ : ∃ l, Q.take (e - m) = l := ⟨_, rfl⟩
        obtain ⟨Q2, eQ2⟩ : ∃ l, Q.drop (e - m) = l := ⟨_, rfl⟩
        rw [eL1, eQ2] at H1
        rw [eL2, eQ1] at H2
        have hLL : L1 ++ L2 = L := by rw [← eL1, ← eL2]; exact List.take_append_drop _ _
        have hQQ : Q1 ++ Q2 = Q := by rw [← eQ1, ← eQ2]; exact List.take_append_drop _ _
        have nL1 : L1.length = j - a := by rw [← eL1, List.length_take]; have := HLm.out; omega
        have nL2 : L2.length = m - j := by rw [← eL2, List.length_drop]; have := HLm.out; omega
        have nQ1 : Q1.length = e - m := by rw [← eQ1, List.length_take]; have := HQm.out; omega
        have nQ2 : Q2.length = b - e := by rw [← eQ2, List.length_drop]; have := HQm.out; omega
        have rL : Ris key Rl (L1 ++ L2) := hLL.symm ▸ HRL.out
        have rQ : Ris key Rl (Q1 ++ Q2) := hQQ.symm ▸ HRQ.out
        have tg : ∀ x ∈ L1 ++ L2, ∀ y ∈ Q1 ++ Q2, Rl x y := by rw [hLL, hQQ]; exact HT.out
        have hd : d.toList = Pr ++ (L1 ++ (L2 ++ (Q1 ++ (Q2 ++ T)))) := by rw [HH.out, ← hLL, ← hQQ]; simp only [List.append_assoc]
        have HB := Lib.hid (show (∀ x ∈ L1, ∀ y ∈ Q2, key x ≤ key y) ∧ (∀ x ∈ L2, ∀ y ∈ Q1, key y < key x) ∧ L1 ++ L2 = L ∧ Q1 ++ Q2 = Q ∧ Ris key Rl (L1 ++ L2) ∧ Ris key Rl (Q1 ++ Q2) ∧ (∀ x ∈ L1 ++ L2, ∀ y ∈ Q1 ++ Q2, Rl x y) from ⟨H1, H2, hLL, hQQ, rL, rQ, tg⟩)
        have HLN := Lib.hid (show L1.length = j - a ∧ L2.length = m - j ∧ Q1.length = e - m ∧ Q2.length = b - e from ⟨nL1, nL2, nQ1, nQ2⟩)
        have HD := Lib.hid hd
        have HNL := Lib.hid (show m - a + (b - m) = N by have := HNN.out; have := HLm.out; have := HQm.out; omega)
        have HFIN := Lib.hid (fun (M1 M2 : List α) (p1 : M1.Perm (L1 ++ Q1)) (p2 : M2.Perm (L2 ++ Q2)) (s1 : Ris key Rl M1) (s2 : Ris key Rl M2) => show (M1 ++ M2).Perm (L ++ Q) ∧ Ris key Rl (M1 ++ M2) from ⟨by
          rw [← hLL, ← hQQ]
          refine (p1.append p2).trans ?_
          rw [List.append_assoc, List.append_assoc]
          refine List.Perm.append_left L1 ?_
          rw [← List.append_assoc, ← List.append_assoc]
          exact List.Perm.append_right Q2 List.perm_append_comm, ris_cross rL rQ tg H1 H2 p1 p2 s1 s2⟩)
        clear HI HJ H1 H2 he eL1 eL2 eQ1 eQ2 hLL hQQ nL1 nL2 nQ1 nQ2 rL rQ tg hd HCR HH HT HRL HRQ HCF
        by_cases k1 : a < j
        · skip
          by_cases k2 : j < m
          · skip
            by_cases k3 : m < e
            · skip
              by_cases k4 : e < b
              · skip
                have z1 : (j : Int) < (m : Int) := by omega
                have z2 : (m : Int) < (e : Int) := by omega
                have z3 : (a : Int) < (j : Int) := by omega
                have z4 : (j : Int) < (mid : Int) := by omega
                have z5 : (mid : Int) < (e : Int) := by omega
                have z6 : (e : Int) < (b : Int) := by omega
                go_wp2_with fail
                refine (HRO.out _ S1.out (Pr ++ L1) L2 Q1 (Q2 ++ T) (by rw [HD.out]; simp only [List.append_assoc]) (by have := HLN.out; omega) (by have := HLN.out; omega) _ _ _ (by have := HLN.out; have := HP.out; rw [List.length_append]; omega) (by have := HLN.out; have := HP.out; rw [List.length_append]; omega) (by have := HLN.out; have := HP.out; rw [List.length_append]; omega)).mono ?_
                rintro _ w3 ⟨rfl, d1, f1, f2, f3⟩
                have S3 : Aside _ := f3
                have HD1 := Lib.hid (show d1.toList = Pr ++ (L1 ++ (Q1 ++ (L2 ++ (Q2 ++ T)))) by rw [f2]; simp only [List.append_assoc])
                have HS1 := Lib.hid f1
                clear f1 f2 f3 S1
                go_wp2_with fail
                refine (HIH.out d1 _ (by have := HS1.out; omega) S3.out Pr L1 Q1 (L2 ++ (Q2 ++ T)) HD1.out (by have := HLN.out; have := HNL.out; omega) (by have := HLN.out; omega) (by have := HLN.out; omega) (List.pairwise_append.1 HB.out.2.2.2.2.1).1 (List.pairwise_append.1 HB.out.2.2.2.2.2.1).1 (fun x hx y hy => HB.out.2.2.2.2.2.2 x (List.mem_append_left _ hx) y (List.mem_append_left _ hy)) _ _ _ _ (by have := HS1.out; omega) (by have := HP.out; omega) (by have := HLN.out; have := HP.out; omega) (by have := HLN.out; have := HP.out; omega)).mono ?_
                rintro _ w4 ⟨rfl, d2, M1, f1, f2, p1, s1, f3⟩
                have S4 : Aside _ := f3
                have HD2 := Lib.hid (show d2.toList = (Pr ++ M1) ++ (L2 ++ (Q2 ++ T)) by rw [f2]; simp only [List.append_assoc])
                have HP1 := Lib.hid p1
                have HR1 := Lib.hid s1
                have HS2 := Lib.hid (show d2.size = d.size from f1.trans (HS1.out))
                clear f1 f2 f3 p1 s1 S3
                have HML := Lib.hid (show (Pr ++ M1).length = mid by rw [List.length_append, HP1.out.length_eq, List.length_append]; have := HLN.out; have := HP.out; omega)
                go_wp2_with fail
                refine (HIH.out d2 _ (by have := HS2.out; omega) S4.out (Pr ++ M1) L2 Q2 T HD2.out (by have := HLN.out; have := HNL.out; omega) (by have := HLN.out; omega) (by have := HLN.out; omega) (List.pairwise_append.1 HB.out.2.2.2.2.1).2.1 (List.pairwise_append.1 HB.out.2.2.2.2.2.1).2.1 (fun x hx y hy => HB.out.2.2.2.2.2.2 x (List.mem_append_right _ hx) y (List.mem_append_right _ hy)) _ _ _ _ (by have := HS2.out; omega) (by have := HML.out; omega) (by have := HML.out; have := HLN.out; omega) (by have := HML.out; have := HLN.out; omega)).mono ?_
                rintro _ w5 ⟨rfl, d3, M2, f1, f2, p2, s2, f3⟩
                have S5 : Aside _ := f3
                have HF := Lib.hid (HFIN.out _ M2 HP1.out p2 HR1.out s2)
                have HD3 := Lib.hid (show d3.toList = Pr ++ ((M1 ++ M2) ++ T) by rw [f2]; simp only [List.append_assoc])
                have HS3 := Lib.hid (show d3.size = d.size from f1.trans (HS2.out))
                clear f1 f2 f3 p2 s2 S4
                go_wp2
                go_end0
                exact ⟨rfl, d3, _, HS3.out, HD3.out, HF.out.1, HF.out.2, S5.out⟩
              · skip
                have z1 : (j : Int) < (m : Int) := by omega
                have z2 : (m : Int) < (e : Int) := by omega
                have z3 : (a : Int) < (j : Int) := by omega
                have z4 : (j : Int) < (mid : Int) := by omega
                have z5 : (mid : Int) < (e : Int) := by omega
                have z6 : ¬ (e : Int) < (b : Int) := by omega
                go_wp2_with fail
                refine (HRO.out _ S1.out (Pr ++ L1) L2 Q1 (Q2 ++ T) (by rw [HD.out]; simp only [List.append_assoc]) (by have := HLN.out; omega) (by have := HLN.out; omega) _ _ _ (by have := HLN.out; have := HP.out; rw [List.length_append]; omega) (by have := HLN.out; have := HP.out; rw [List.length_append]; omega) (by have := HLN.out; have := HP.out; rw [List.length_append]; omega)).mono ?_
                rintro _ w3 ⟨rfl, d1, f1, f2, f3⟩
                have S3 : Aside _ := f3
                have HD1 := Lib.hid (show d1.toList = Pr ++ (L1 ++ (Q1 ++ (L2 ++ (Q2 ++ T)))) by rw [f2]; simp only [List.append_assoc])
                have HS1 := Lib.hid f1
                clear f1 f2 f3 S1
                go_wp2_with fail
                refine (HIH.out d1 _ (by have := HS1.out; omega) S3.out Pr L1 Q1 (L2 ++ (Q2 ++ T)) HD1.out (by have := HLN.out; have := HNL.out; omega) (by have := HLN.out; omega) (by have := HLN.out; omega) (List.pairwise_append.1 HB.out.2.2.2.2.1).1 (List.pairwise_append.1 HB.out.2.2.2.2.2.1).1 (fun x hx y hy => HB.out.2.2.2.2.2.2 x (List.mem_append_left _ hx) y (List.mem_append_left _ hy)) _ _ _ _ (by have := HS1.out; omega) (by have := HP.out; omega) (by have := HLN.out; have := HP.out; omega) (by have := HLN.out; have := HP.out; omega)).mono ?_
                rintro _ w4 ⟨rfl, d2, M1, f1, f2, p1, s1, f3⟩
                have S4 : Aside _ := f3
                have HD2 := Lib.hid (show d2.toList = (Pr ++ M1) ++ (L2 ++ (Q2 ++ T)) by rw [f2]; simp only [List.append_assoc])
                have HP1 := Lib.hid p1
                have HR1 := Lib.hid s1
                have HS2 := Lib.hid (show d2.size = d.size from f1.trans (HS1.out))
                clear f1 f2 f3 p1 s1 S3
                have HF := Lib.hid (HFIN.out _ (L2 ++ Q2) HP1.out (List.Perm.refl _) HR1.out (by
                  rw [show Q2 = [] from List.length_eq_zero_iff.1 (by have := HLN.out; omega)]
                  rw [List.append_nil]; exact (List.pairwise_append.1 HB.out.2.2.2.2.1).2.1))
                have HD3 := Lib.hid (show d2.toList = Pr ++ ((M1 ++ (L2 ++ Q2)) ++ T) by rw [HD2.out]; simp only [List.append_assoc])
                go_wp2
                go_end0
                exact ⟨rfl, d2, _, HS2.out, HD3.out, HF.out.1, HF.out.2, S4.out⟩
            · skip
              by_cases k4 : e < b
              · skip
                have z1 : (j : Int) < (m : Int) := by omega
                have z2 : ¬ (m : Int) < (e : Int) := by omega
                have z3 : (a : Int) < (j : Int) := by omega
                have z4 : ¬ (j : Int) < (mid : Int) := by omega
                have z5 : (mid : Int) < (e : Int) := by omega
                have z6 : (e : Int) < (b : Int) := by omega
                have HD1 := Lib.hid (show d.toList = Pr ++ (L1 ++ (Q1 ++ (L2 ++ (Q2 ++ T)))) by
                  rw [HD.out]
                  rw [show Q1 = [] from List.length_eq_zero_iff.1 (by have := HLN.out; omega)]; simp only [List.nil_append])
                have HD2 := Lib.hid (show d.toList = (Pr ++ (L1 ++ Q1)) ++ (L2 ++ (Q2 ++ T)) by rw [HD1.out]; simp only [List.append_assoc])
                have HP1 := Lib.hid (List.Perm.refl (L1 ++ Q1))
                have HR1 := Lib.hid (show Ris key Rl (L1 ++ Q1) by
                  rw [show Q1 = [] from List.length_eq_zero_iff.1 (by have := HLN.out; omega)]
                  rw [List.append_nil]; exact (List.pairwise_append.1 HB.out.2.2.2.2.1).1)
                have HML := Lib.hid (show (Pr ++ (L1 ++ Q1)).length = mid by rw [List.length_append, HP1.out.length_eq, List.length_append]; have := HLN.out; have := HP.out; omega)
                go_wp2_with fail
                refine (HIH.out d _ hs S1.out (Pr ++ (L1 ++ Q1)) L2 Q2 T HD2.out (by have := HLN.out; have := HNL.out; omega) (by have := HLN.out; omega) (by have := HLN.out; omega) (List.pairwise_append.1 HB.out.2.2.2.2.1).2.1 (List.pairwise_append.1 HB.out.2.2.2.2.2.1).2.1 (fun x hx y hy => HB.out.2.2.2.2.2.2 x (List.mem_append_right _ hx) y (List.mem_append_right _ hy)) _ _ _ _ rfl (by have := HML.out; omega) (by have := HML.out; have := HLN.out; omega) (by have := HML.out; have := HLN.out; omega)).mono ?_
                rintro _ w5 ⟨rfl, d3, M2, f1, f2, p2, s2, f3⟩
                have S5 : Aside _ := f3
                have HF := Lib.hid (HFIN.out _ M2 HP1.out p2 HR1.out s2)
                have HD3 := Lib.hid (show d3.toList = Pr ++ (((L1 ++ Q1) ++ M2) ++ T) by rw [f2]; simp only [List.append_assoc])
                have HS3 := Lib.hid (show d3.size = d.size from f1.trans (rfl))
                clear f1 f2 f3 p2 s2 S1
                go_wp2
                go_end0
                exact ⟨rfl, d3, _, HS3.out, HD3.out, HF.out.1, HF.out.2, S5.out⟩
              · skip
                exfalso; have := G6.out; omega
          · skip
            by_cases k3 : m < e
            · skip
              by_cases k4 : e < b
              · skip
                exfalso; have := G6.out; omega
              · skip
                exfalso; have := G6.out; omega
            · skip
              by_cases k4 : e < b
              · skip
                exfalso; have := G6.out; omega
              · skip
                exfalso; have := G6.out; omega
        · skip
          by_cases k2 : j < m
          · skip
            by_cases k3 : m < e
            · skip
              by_cases k4 : e < b
              · skip
                have z1 : (j : Int) < (m : Int) := by omega
                have z2 : (m : Int) < (e : Int) := by omega
                have z3 : ¬ (a : Int) < (j : Int) := by omega
                have z4 : (j : Int) < (mid : Int) := by omega
                have z5 : (mid : Int) < (e : Int) := by omega
                have z6 : (e : Int) < (b : Int) := by omega
                go_wp2_with fail
                refine (HRO.out _ S1.out (Pr ++ L1) L2 Q1 (Q2 ++ T) (by rw [HD.out]; simp only [List.append_assoc]) (by have := HLN.out; omega) (by have := HLN.out; omega) _ _ _ (by have := HLN.out; have := HP.out; rw [List.length_append]; omega) (by have := HLN.out; have := HP.out; rw [List.length_append]; omega) (by have := HLN.out; have := HP.out; rw [List.length_append]; omega)).mono ?_
                rintro _ w3 ⟨rfl, d1, f1, f2, f3⟩
                have S3 : Aside _ := f3
                have HD1 := Lib.hid (show d1.toList = Pr ++ (L1 ++ (Q1 ++ (L2 ++ (Q2 ++ T)))) by rw [f2]; simp only [List.append_assoc])
                have HS1 := Lib.hid f1
                clear f1 f2 f3 S1
                have HD2 := Lib.hid (show d1.toList = (Pr ++ (L1 ++ Q1)) ++ (L2 ++ (Q2 ++ T)) by rw [HD1.out]; simp only [List.append_assoc])
                have HP1 := Lib.hid (List.Perm.refl (L1 ++ Q1))
                have HR1 := Lib.hid (show Ris key Rl (L1 ++ Q1) by
                  rw [show L1 = [] from List.length_eq_zero_iff.1 (by have := HLN.out; omega)]
                  exact (List.pairwise_append.1 HB.out.2.2.2.2.2.1).1)
                have HML := Lib.hid (show (Pr ++ (L1 ++ Q1)).length = mid by rw [List.length_append, HP1.out.length_eq, List.length_append]; have := HLN.out; have := HP.out; omega)
                go_wp2_with fail
                refine (HIH.out d1 _ (by have := HS1.out; omega) S3.out (Pr ++ (L1 ++ Q1)) L2 Q2 T HD2.out (by have := HLN.out; have := HNL.out; omega) (by have := HLN.out; omega) (by have := HLN.out; omega) (List.pairwise_append.1 HB.out.2.2.2.2.1).2.1 (List.pairwise_append.1 HB.out.2.2.2.2.2.1).2.1 (fun x hx y hy => HB.out.2.2.2.2.2.2 x (List.mem_append_right _ hx) y (List.mem_append_right _ hy)) _ _ _ _ (by have := HS1.out; omega) (by have := HML.out; omega) (by have := HML.out; have := HLN.out; omega) (by have := HML.out; have := HLN.out; omega)).mono ?_
                rintro _ w5 ⟨rfl, d3, M2, f1, f2, p2, s2, f3⟩
                have S5 : Aside _ := f3
                have HF := Lib.hid (HFIN.out _ M2 HP1.out p2 HR1.out s2)
                have HD3 := Lib.hid (show d3.toList = Pr ++ (((L1 ++ Q1) ++ M2) ++ T) by rw [f2]; simp only [List.append_assoc])
                have HS3 := Lib.hid (show d3.size = d.size from f1.trans (HS1.out))
                clear f1 f2 f3 p2 s2 S3
                go_wp2
                go_end0
                exact ⟨rfl, d3, _, HS3.out, HD3.out, HF.out.1, HF.out.2, S5.out⟩
              · skip
                have z1 : (j : Int) < (m : Int) := by omega
                have z2 : (m : Int) < (e : Int) := by omega
                have z3 : ¬ (a : Int) < (j : Int) := by omega
                have z4 : (j : Int) < (mid : Int) := by omega
                have z5 : (mid : Int) < (e : Int) := by omega
                have z6 : ¬ (e : Int) < (b : Int) := by omega
                go_wp2_with fail
                refine (HRO.out _ S1.out (Pr ++ L1) L2 Q1 (Q2 ++ T) (by rw [HD.out]; simp only [List.append_assoc]) (by have := HLN.out; omega) (by have := HLN.out; omega) _ _ _ (by have := HLN.out; have := HP.out; rw [List.length_append]; omega) (by have := HLN.out; have := HP.out; rw [List.length_append]; omega) (by have := HLN.out; have := HP.out; rw [List.length_append]; omega)).mono ?_
                rintro _ w3 ⟨rfl, d1, f1, f2, f3⟩
                have S3 : Aside _ := f3
                have HD1 := Lib.hid (show d1.toList = Pr ++ (L1 ++ (Q1 ++ (L2 ++ (Q2 ++ T)))) by rw [f2]; simp only [List.append_assoc])
                have HS1 := Lib.hid f1
                clear f1 f2 f3 S1
                have HD2 := Lib.hid (show d1.toList = (Pr ++ (L1 ++ Q1)) ++ (L2 ++ (Q2 ++ T)) by rw [HD1.out]; simp only [List.append_assoc])
                have HP1 := Lib.hid (List.Perm.refl (L1 ++ Q1))
                have HR1 := Lib.hid (show Ris key Rl (L1 ++ Q1) by
                  rw [show L1 = [] from List.length_eq_zero_iff.1 (by have := HLN.out; omega)]
                  exact (List.pairwise_append.1 HB.out.2.2.2.2.2.1).1)
                have HF := Lib.hid (HFIN.out _ (L2 ++ Q2) HP1.out (List.Perm.refl _) HR1.out (by
                  rw [show Q2 = [] from List.length_eq_zero_iff.1 (by have := HLN.out; omega)]
                  rw [List.append_nil]; exact (List.pairwise_append.1 HB.out.2.2.2.2.1).2.1))
                have HD3 := Lib.hid (show d1.toList = Pr ++ (((L1 ++ Q1) ++ (L2 ++ Q2)) ++ T) by rw [HD2.out]; simp only [List.append_assoc])
                go_wp2
                go_end0
                exact ⟨rfl, d1, _, HS1.out, HD3.out, HF.out.1, HF.out.2, S3.out⟩
            · skip
              by_cases k4 : e < b
              · skip
                exfalso; have := G6.out; omega
              · skip
                exfalso; have := G6.out; omega
          · skip
            by_cases k3 : m < e
            · skip
              by_cases k4 : e < b
              · skip
                exfalso; have := G6.out; omega
              · skip
                exfalso; have := G6.out; omega
            · skip
              by_cases k4 : e < b
              · skip
                exfalso; have := G6.out; omega
              · skip
                exfalso; have := G6.out; omega
  · skip
    have hsz1 : ¬ (m : Int) > (mid : Int) := by omega
    obtain ⟨s0, es0⟩ : ∃ q, a = q := ⟨_, rfl⟩
    obtain ⟨r0, er0⟩ : ∃ q, m = q := ⟨_, rfl⟩
    have FF := Lib.hid (show a ≤ s0 ∧ s0 ≤ r0 ∧ r0 ≤ m ∧ m ≤ n - r0 ∧ n - s0 ≤ b ∧ (s0 = a ∨ n - s0 = b) ∧ (r0 = m ∨ n - r0 = m) ∧ r0 ≤ n by have := HMID.out; omega)
    have g1 : a ≤ s0 := FF.out.1
    have g2 : r0 ≤ m := FF.out.2.2.1
    have g3 : s0 ≤ r0 := FF.out.2.1
    have g4 : m + r0 ≤ n := by have := FF.out; omega
    have g5 : n ≤ b + s0 := by have := FF.out; omega
    have G7 := Lib.hid (show s0 = a ∧ r0 = m from ⟨es0.symm, er0.symm⟩)
    clear es0 er0
    go_enter B.f_sm, Try.ntmps84
    go_wp2
    go_loopw [20, 21] (fun si sj wr => ∃ (i j : Nat), si = .int .i64 i ∧ sj = .int .i64 j ∧ s0 ≤ i ∧ i ≤ j ∧ j ≤ r0 ∧ Aside (SWK enc k w0 blk off d wr) ∧ Hid (i = s0 ∨ key d[i - 1]! ≤ key d[n - i]!) ∧ Hid (j = r0 ∨ key d[n - 1 - j]! < key d[j]!)) (fun si sj _ => (intOf sj).toNat - (intOf si).toNat)
    case atStart => exact ⟨s0, r0, by rw [G7.out.1], by rw [G7.out.2], Nat.le_refl _, g3, Nat.le_refl _, HS0, (.inl rfl), (.inl rfl)⟩
    case round =>
      obtain ⟨i, j, rfl, rfl, hmi, hij, hjb, S1, HI, HJ⟩ := hrel
      clear HS0
      by_cases hlt : i < j
      · have hltz : (i : Int) < (j : Int) := by omega
        obtain ⟨hh, ehh⟩ : ∃ q, (i + j) / 2 = q := ⟨_, rfl⟩
        have ehz : ((i : Int) + (j : Int)) / 2 = (hh : Int) := by omega
        have b1 : i ≤ hh := by omega
        have b2 : hh < j := by omega
        obtain ⟨pc, hpc⟩ : ∃ q, n - 1 - hh = q := ⟨_, rfl⟩
        have epc : (p : Int) - (hh : Int) = (pc : Int) := by have := HMID.out; omega
        have b3 : pc < d.size := by omega
        have b4 : hh < d.size := by omega
        have HPC := Lib.hid (show pc + 1 = n - hh by omega)
        clear ehh hpc
        by_cases hv : cf d[pc]! d[hh]! < 0
        · have HV := Lib.hid hv
          clear hv
          go_wp2_with fail
          have ea44 : ((pc : Int)).toNat = pc := by omega
          have pa44 : (0 : Int) ≤ (pc : Int) := by omega
          have ba44 : (pc : Int) < (d.size : Int) := by omega
          have ra44 : IntKind.i64.wrap ((pc : Int)) = (pc : Int) := by rw [IntKind.wrap_i64]; omega
          have ec44 : ((hh : Int)).toNat = hh := by omega
          have pc44 : (0 : Int) ≤ (hh : Int) := by omega
          have bc44 : (hh : Int) < (d.size : Int) := by omega
          have rc44 : IntKind.i64.wrap ((hh : Int)) = (hh : Int) := by rw [IntKind.wrap_i64]; omega
          obtain ⟨x44, hx44⟩ : ∃ x, x = d[pc]! := ⟨_, rfl⟩
          obtain ⟨y44, hy44⟩ : ∃ x, x = d[hh]! := ⟨_, rfl⟩
          have l44a := S1.out.ld R (by omega) P (pc) (by omega)
          have l44b := S1.out.ld R (by omega) P (hh) (by omega)
          rw [← hx44] at l44a
          rw [← hy44] at l44b
          have hc44 := S1.out.cmp HC.out (by omega) x44 y44
          have hv44 : cf x44 y44 < 0 := by rw [hx44, hy44]; exact (by have := HV.out; omega)
          have hd44 : decide (cf x44 y44 < 0) = true := decide_eq_true hv44
          clear hx44 hy44
          go_wp2_with fail
          go_quiet_grown (first | (go_at_fn g; refine Calls.grown_of (hc44 _ _)))
          have S2 : Aside (SWK enc k w0 blk off d (grow (wr.drewN nq) osq)) := S1.out.grown nq osq
          clear l44a l44b hc44 S1
          generalize grow (wr.drewN nq) osq = w2 at S2 ⊢
          clear nq osq hv44
          have HJ2 := Lib.hid (show hh = r0 ∨ key d[n - 1 - hh]! < key d[hh]! from .inr (by
            rw [show n - 1 - hh = pc by have := HPC.out; omega]
            exact (HCF.out _ _).1 HV.out))
          clear HV
          go_wp2
          go_roundw
          case rel => exact ⟨i, hh, rfl, rfl, hmi, by omega, by omega, S2, HI, HJ2⟩
          case measure => simp [intOf]; omega
        · have HV := Lib.hid hv
          clear hv
          go_wp2_with fail
          have ea44 : ((pc : Int)).toNat = pc := by omega
          have pa44 : (0 : Int) ≤ (pc : Int) := by omega
          have ba44 : (pc : Int) < (d.size : Int) := by omega
          have ra44 : IntKind.i64.wrap ((pc : Int)) = (pc : Int) := by rw [IntKind.wrap_i64]; omega
          have ec44 : ((hh : Int)).toNat = hh := by omega
          have pc44 : (0 : Int) ≤ (hh : Int) := by omega
          have bc44 : (hh : Int) < (d.size : Int) := by omega
          have rc44 : IntKind.i64.wrap ((hh : Int)) = (hh : Int) := by rw [IntKind.wrap_i64]; omega
          obtain ⟨x44, hx44⟩ : ∃ x, x = d[pc]! := ⟨_, rfl⟩
          obtain ⟨y44, hy44⟩ : ∃ x, x = d[hh]! := ⟨_, rfl⟩
          have l44a := S1.out.ld R (by omega) P (pc) (by omega)
          have l44b := S1.out.ld R (by omega) P (hh) (by omega)
          rw [← hx44] at l44a
          rw [← hy44] at l44b
          have hc44 := S1.out.cmp HC.out (by omega) x44 y44
          have hv44 : ¬ cf x44 y44 < 0 := by rw [hx44, hy44]; exact (by have := HV.out; omega)
          have hd44 : decide (cf x44 y44 < 0) = false := decide_eq_false hv44
          clear hx44 hy44
          go_wp2_with fail
          go_quiet_grown (first | (go_at_fn g; refine Calls.grown_of (hc44 _ _)))
          have S2 : Aside (SWK enc k w0 blk off d (grow (wr.drewN nq) osq)) := S1.out.grown nq osq
          clear l44a l44b hc44 S1
          generalize grow (wr.drewN nq) osq = w2 at S2 ⊢
          clear nq osq hv44
          have HI2 := Lib.hid (show hh + 1 = s0 ∨ key d[hh + 1 - 1]! ≤ key d[n - (hh + 1)]! from .inr (by
            rw [show n - (hh + 1) = pc by have := HPC.out; omega, Nat.add_sub_cancel]
            have e1 : ¬ key d[pc]! < key d[hh]! := fun e => by have e3 := HV.out; have := (HCF.out _ _).2 e; omega
            omega))
          clear HV
          go_wp2
          go_roundw
          case rel => exact ⟨hh + 1, j, by go_num, rfl, by omega, by omega, hjb, S2, HI2, HJ⟩
          case measure => simp [intOf]; omega
      · obtain rfl : j = i := by omega
        have hnlt : ¬ (j : Int) < (j : Int) := by omega
        obtain ⟨H1, H2⟩ := HCR.out n s0 r0 j FF.out.1 hmi hjb FF.out.2.2.1 FF.out.2.2.2.1 FF.out.2.2.2.2.1 FF.out.2.2.2.2.2.1 FF.out.2.2.2.2.2.2.1 FF.out.2.2.2.2.2.2.2 HI.out HJ.out
        obtain ⟨e, he⟩ : ∃ q, n - j = q := ⟨_, rfl⟩
        rw [he] at H1 H2
        have ee : (n : Int) - (j : Int) = (e : Int) := by have := FF.out; omega
        have c1 : a ≤ j := by omega
        have c2 : j ≤ m := by omega
        have c3 : m ≤ e := by have := FF.out; omega
        have c4 : e ≤ b := by have := FF.out; omega
        have c5 : e + j = mid + m := by have := FF.out; have := HMID.out; omega
        obtain ⟨L1, eL1⟩ : ∃ l, L.take (j - a) = l := ⟨_, rfl⟩
        obtain ⟨L2, eL2⟩ : ∃ l, L.drop (j - a) = l := ⟨_, rfl⟩
        obtain ⟨Q1, eQ1⟩ : ∃ l, Q.take (e - m) = l := ⟨_, rfl⟩
        obtain ⟨Q2, eQ2⟩ : ∃ l, Q.drop (e - m) = l := ⟨_, rfl⟩
        rw [eL1, eQ2] at H1
        rw [eL2, eQ1] at H2
        have hLL : L1 ++ L2 = L := by rw [← eL1, ← eL2]; exact List.take_append_drop _ _
        have hQQ : Q1 ++ Q2 = Q := by rw [← eQ1, ← eQ2]; exact List.take_append_drop _ _
        have nL1 : L1.length = j - a := by rw [← eL1, List.length_take]; have := HLm.out; omega
        have nL2 : L2.length = m - j := by rw [← eL2, List.length_drop]; have := HLm.out; omega
        have nQ1 : Q1.length = e - m := by rw [← eQ1, List.length_take]; have := HQm.out; omega
        have nQ2 : Q2.length = b - e := by rw [← eQ2, List.length_drop]; have := HQm.out; omega
        have rL : Ris key Rl (L1 ++ L2) := hLL.symm ▸ HRL.out
        have rQ : Ris key Rl (Q1 ++ Q2) := hQQ.symm ▸ HRQ.out
        have tg : ∀ x ∈ L1 ++ L2, ∀ y ∈ Q1 ++ Q2, Rl x y := by rw [hLL, hQQ]; exact HT.out
        have hd : d.toList = Pr ++ (L1 ++ (L2 ++ (Q1 ++ (Q2 ++ T)))) := by rw [HH.out, ← hLL, ← hQQ]; simp only [List.append_assoc]
        have HB := Lib.hid (show (∀ x ∈ L1, ∀ y ∈ Q2, key x ≤ key y) ∧ (∀ x ∈ L2, ∀ y ∈ Q1, key y < key x) ∧ L1 ++ L2 = L ∧ Q1 ++ Q2 = Q ∧ Ris key Rl (L1 ++ L2) ∧ Ris key Rl (Q1 ++ Q2) ∧ (∀ x ∈ L1 ++ L2, ∀ y ∈ Q1 ++ Q2, Rl x y) from ⟨H1, H2, hLL, hQQ, rL, rQ, tg⟩)
        have HLN := Lib.hid (show L1.length = j - a ∧ L2.length = m - j ∧ Q1.length = e - m ∧ Q2.length = b - e from ⟨nL1, nL2, nQ1, nQ2⟩)
        have HD := Lib.hid hd
        have HNL := Lib.hid (show m - a + (b - m) = N by have := HNN.out; have := HLm.out; have := HQm.out; omega)
        have HFIN := Lib.hid (fun (M1 M2 : List α) (p1 : M1.Perm (L1 ++ Q1)) (p2 : M2.Perm (L2 ++ Q2)) (s1 : Ris key Rl M1) (s2 : Ris key Rl M2) => show (M1 ++ M2).Perm (L ++ Q) ∧ Ris key Rl (M1 ++ M2) from ⟨by
          rw [← hLL, ← hQQ]
          refine (p1.append p2).trans ?_
          rw [List.append_assoc, List.append_assoc]
          refine List.Perm.append_left L1 ?_
          rw [← List.append_assoc, ← List.append_assoc]
          exact List.Perm.append_right Q2 List.perm_append_comm, ris_cross rL rQ tg H1 H2 p1 p2 s1 s2⟩)
        clear HI HJ H1 H2 he eL1 eL2 eQ1 eQ2 hLL hQQ nL1 nL2 nQ1 nQ2 rL rQ tg hd HCR HH HT HRL HRQ HCF
        by_cases k1 : a < j
        · skip
          by_cases k2 : j < m
          · skip
            by_cases k3 : m < e
            · skip
              by_cases k4 : e < b
              · skip
                have z1 : (j : Int) < (m : Int) := by omega
                have z2 : (m : Int) < (e : Int) := by omega
                have z3 : (a : Int) < (j : Int) := by omega
                have z4 : (j : Int) < (mid : Int) := by omega
                have z5 : (mid : Int) < (e : Int) := by omega
                have z6 : (e : Int) < (b : Int) := by omega
                go_wp2_with fail
                refine (HRO.out _ S1.out (Pr ++ L1) L2 Q1 (Q2 ++ T) (by rw [HD.out]; simp only [List.append_assoc]) (by have := HLN.out; omega) (by have := HLN.out; omega) _ _ _ (by have := HLN.out; have := HP.out; rw [List.length_append]; omega) (by have := HLN.out; have := HP.out; rw [List.length_append]; omega) (by have := HLN.out; have := HP.out; rw [List.length_append]; omega)).mono ?_
                rintro _ w3 ⟨rfl, d1, f1, f2, f3⟩
                have S3 : Aside _ := f3
                have HD1 := Lib.hid (show d1.toList = Pr ++ (L1 ++ (Q1 ++ (L2 ++ (Q2 ++ T)))) by rw [f2]; simp only [List.append_assoc])
                have HS1 := Lib.hid f1
                clear f1 f2 f3 S1
                go_wp2_with fail
                refine (HIH.out d1 _ (by have := HS1.out; omega) S3.out Pr L1 Q1 (L2 ++ (Q2 ++ T)) HD1.out (by have := HLN.out; have := HNL.out; omega) (by have := HLN.out; omega) (by have := HLN.out; omega) (List.pairwise_append.1 HB.out.2.2.2.2.1).1 (List.pairwise_append.1 HB.out.2.2.2.2.2.1).1 (fun x hx y hy => HB.out.2.2.2.2.2.2 x (List.mem_append_left _ hx) y (List.mem_append_left _ hy)) _ _ _ _ (by have := HS1.out; omega) (by have := HP.out; omega) (by have := HLN.out; have := HP.out; omega) (by have := HLN.out; have := HP.out; omega)).mono ?_
                rintro _ w4 ⟨rfl, d2, M1, f1, f2, p1, s1, f3⟩
                have S4 : Aside _ := f3
                have HD2 := Lib.hid (show d2.toList = (Pr ++ M1) ++ (L2 ++ (Q2 ++ T)) by rw [f2]; simp only [List.append_assoc])
                have HP1 := Lib.hid p1
                have HR1 := Lib.hid s1
                have HS2 := Lib.hid (show d2.size = d.size from f1.trans (HS1.out))
                clear f1 f2 f3 p1 s1 S3
                have HML := Lib.hid (show (Pr ++ M1).length = mid by rw [List.length_append, HP1.out.length_eq, List.length_append]; have := HLN.out; have := HP.out; omega)
                go_wp2_with fail
                refine (HIH.out d2 _ (by have := HS2.out; omega) S4.out (Pr ++ M1) L2 Q2 T HD2.out (by have := HLN.out; have := HNL.out; omega) (by have := HLN.out; omega) (by have := HLN.out; omega) (List.pairwise_append.1 HB.out.2.2.2.2.1).2.1 (List.pairwise_append.1 HB.out.2.2.2.2.2.1).2.1 (fun x hx y hy => HB.out.2.2.2.2.2.2 x (List.mem_append_right _ hx) y (List.mem_append_right _ hy)) _ _ _ _ (by have := HS2.out; omega) (by have := HML.out; omega) (by have := HML.out; have := HLN.out; omega) (by have := HML.out; have := HLN.out; omega)).mono ?_
                rintro _ w5 ⟨rfl, d3, M2, f1, f2, p2, s2, f3⟩
                have S5 : Aside _ := f3
                have HF := Lib.hid (HFIN.out _ M2 HP1.out p2 HR1.out s2)
                have HD3 := Lib.hid (show d3.toList = Pr ++ ((M1 ++ M2) ++ T) by rw [f2]; simp only [List.append_assoc])
                have HS3 := Lib.hid (show d3.size = d.size from f1.trans (HS2.out))
                clear f1 f2 f3 p2 s2 S4
                go_wp2
                go_end0
                exact ⟨rfl, d3, _, HS3.out, HD3.out, HF.out.1, HF.out.2, S5.out⟩
              · skip
                have z1 : (j : Int) < (m : Int) := by omega
                have z2 : (m : Int) < (e : Int) := by omega
                have z3 : (a : Int) < (j : Int) := by omega
                have z4 : (j : Int) < (mid : Int) := by omega
                have z5 : (mid : Int) < (e : Int) := by omega
                have z6 : ¬ (e : Int) < (b : Int) := by omega
                go_wp2_with fail
                refine (HRO.out _ S1.out (Pr ++ L1) L2 Q1 (Q2 ++ T) (by rw [HD.out]; simp only [List.append_assoc]) (by have := HLN.out; omega) (by have := HLN.out; omega) _ _ _ (by have := HLN.out; have := HP.out; rw [List.length_append]; omega) (by have := HLN.out; have := HP.out; rw [List.length_append]; omega) (by have := HLN.out; have := HP.out; rw [List.length_append]; omega)).mono ?_
                rintro _ w3 ⟨rfl, d1, f1, f2, f3⟩
                have S3 : Aside _ := f3
                have HD1 := Lib.hid (show d1.toList = Pr ++ (L1 ++ (Q1 ++ (L2 ++ (Q2 ++ T)))) by rw [f2]; simp only [List.append_assoc])
                have HS1 := Lib.hid f1
                clear f1 f2 f3 S1
                go_wp2_with fail
                refine (HIH.out d1 _ (by have := HS1.out; omega) S3.out Pr L1 Q1 (L2 ++ (Q2 ++ T)) HD1.out (by have := HLN.out; have := HNL.out; omega) (by have := HLN.out; omega) (by have := HLN.out; omega) (List.pairwise_append.1 HB.out.2.2.2.2.1).1 (List.pairwise_append.1 HB.out.2.2.2.2.2.1).1 (fun x hx y hy => HB.out.2.2.2.2.2.2 x (List.mem_append_left _ hx) y (List.mem_append_left _ hy)) _ _ _ _ (by have := HS1.out; omega) (by have := HP.out; omega) (by have := HLN.out; have := HP.out; omega) (by have := HLN.out; have := HP.out; omega)).mono ?_
                rintro _ w4 ⟨rfl, d2, M1, f1, f2, p1, s1, f3⟩
                have S4 : Aside _ := f3
                have HD2 := Lib.hid (show d2.toList = (Pr ++ M1) ++ (L2 ++ (Q2 ++ T)) by rw [f2]; simp only [List.append_assoc])
                have HP1 := Lib.hid p1
                have HR1 := Lib.hid s1
                have HS2 := Lib.hid (show d2.size = d.size from f1.trans (HS1.out))
                clear f1 f2 f3 p1 s1 S3
                have HF := Lib.hid (HFIN.out _ (L2 ++ Q2) HP1.out (List.Perm.refl _) HR1.out (by
                  rw [show Q2 = [] from List.length_eq_zero_iff.1 (by have := HLN.out; omega)]
                  rw [List.append_nil]; exact (List.pairwise_append.1 HB.out.2.2.2.2.1).2.1))
                have HD3 := Lib.hid (show d2.toList = Pr ++ ((M1 ++ (L2 ++ Q2)) ++ T) by rw [HD2.out]; simp only [List.append_assoc])
                go_wp2
                go_end0
                exact ⟨rfl, d2, _, HS2.out, HD3.out, HF.out.1, HF.out.2, S4.out⟩
            · skip
              by_cases k4 : e < b
              · skip
                have z1 : (j : Int) < (m : Int) := by omega
                have z2 : ¬ (m : Int) < (e : Int) := by omega
                have z3 : (a : Int) < (j : Int) := by omega
                have z4 : ¬ (j : Int) < (mid : Int) := by omega
                have z5 : (mid : Int) < (e : Int) := by omega
                have z6 : (e : Int) < (b : Int) := by omega
                have HD1 := Lib.hid (show d.toList = Pr ++ (L1 ++ (Q1 ++ (L2 ++ (Q2 ++ T)))) by
                  rw [HD.out]
                  rw [show Q1 = [] from List.length_eq_zero_iff.1 (by have := HLN.out; omega)]; simp only [List.nil_append])
                have HD2 := Lib.hid (show d.toList = (Pr ++ (L1 ++ Q1)) ++ (L2 ++ (Q2 ++ T)) by rw [HD1.out]; simp only [List.append_assoc])
                have HP1 := Lib.hid (List.Perm.refl (L1 ++ Q1))
                have HR1 := Lib.hid (show Ris key Rl (L1 ++ Q1) by
                  rw [show Q1 = [] from List.length_eq_zero_iff.1 (by have := HLN.out; omega)]
                  rw [List.append_nil]; exact (List.pairwise_append.1 HB.out.2.2.2.2.1).1)
                have HML := Lib.hid (show (Pr ++ (L1 ++ Q1)).length = mid by rw [List.length_append, HP1.out.length_eq, List.length_append]; have := HLN.out; have := HP.out; omega)
                go_wp2_with fail
                refine (HIH.out d _ hs S1.out (Pr ++ (L1 ++ Q1)) L2 Q2 T HD2.out (by have := HLN.out; have := HNL.out; omega) (by have := HLN.out; omega) (by have := HLN.out; omega) (List.pairwise_append.1 HB.out.2.2.2.2.1).2.1 (List.pairwise_append.1 HB.out.2.2.2.2.2.1).2.1 (fun x hx y hy => HB.out.2.2.2.2.2.2 x (List.mem_append_right _ hx) y (List.mem_append_right _ hy)) _ _ _ _ rfl (by have := HML.out; omega) (by have := HML.out; have := HLN.out; omega) (by have := HML.out; have := HLN.out; omega)).mono ?_
                rintro _ w5 ⟨rfl, d3, M2, f1, f2, p2, s2, f3⟩
                have S5 : Aside _ := f3
                have HF := Lib.hid (HFIN.out _ M2 HP1.out p2 HR1.out s2)
                have HD3 := Lib.hid (show d3.toList = Pr ++ (((L1 ++ Q1) ++ M2) ++ T) by rw [f2]; simp only [List.append_assoc])
                have HS3 := Lib.hid (show d3.size = d.size from f1.trans (rfl))
                clear f1 f2 f3 p2 s2 S1
                go_wp2
                go_end0
                exact ⟨rfl, d3, _, HS3.out, HD3.out, HF.out.1, HF.out.2, S5.out⟩
              · skip
                exfalso; omega
          · skip
            by_cases k3 : m < e
            · skip
              by_cases k4 : e < b
              · skip
                have z1 : ¬ (j : Int) < (m : Int) := by omega
                have z2 : (m : Int) < (e : Int) := by omega
                have z3 : (a : Int) < (j : Int) := by omega
                have z4 : (j : Int) < (mid : Int) := by omega
                have z5 : ¬ (mid : Int) < (e : Int) := by omega
                have z6 : (e : Int) < (b : Int) := by omega
                have HD1 := Lib.hid (show d.toList = Pr ++ (L1 ++ (Q1 ++ (L2 ++ (Q2 ++ T)))) by
                  rw [HD.out]
                  rw [show L2 = [] from List.length_eq_zero_iff.1 (by have := HLN.out; omega)]; simp only [List.nil_append])
                go_wp2_with fail
                refine (HIH.out d _ hs S1.out Pr L1 Q1 (L2 ++ (Q2 ++ T)) HD1.out (by have := HLN.out; have := HNL.out; omega) (by have := HLN.out; omega) (by have := HLN.out; omega) (List.pairwise_append.1 HB.out.2.2.2.2.1).1 (List.pairwise_append.1 HB.out.2.2.2.2.2.1).1 (fun x hx y hy => HB.out.2.2.2.2.2.2 x (List.mem_append_left _ hx) y (List.mem_append_left _ hy)) _ _ _ _ rfl (by have := HP.out; omega) (by have := HLN.out; have := HP.out; omega) (by have := HLN.out; have := HP.out; omega)).mono ?_
                rintro _ w4 ⟨rfl, d2, M1, f1, f2, p1, s1, f3⟩
                have S4 : Aside _ := f3
                have HD2 := Lib.hid (show d2.toList = (Pr ++ M1) ++ (L2 ++ (Q2 ++ T)) by rw [f2]; simp only [List.append_assoc])
                have HP1 := Lib.hid p1
                have HR1 := Lib.hid s1
                have HS2 := Lib.hid (show d2.size = d.size from f1.trans (rfl))
                clear f1 f2 f3 p1 s1 S1
                have HF := Lib.hid (HFIN.out _ (L2 ++ Q2) HP1.out (List.Perm.refl _) HR1.out (by
                  rw [show L2 = [] from List.length_eq_zero_iff.1 (by have := HLN.out; omega)]
                  exact (List.pairwise_append.1 HB.out.2.2.2.2.2.1).2.1))
                have HD3 := Lib.hid (show d2.toList = Pr ++ ((M1 ++ (L2 ++ Q2)) ++ T) by rw [HD2.out]; simp only [List.append_assoc])
                go_wp2
                go_end0
                exact ⟨rfl, d2, _, HS2.out, HD3.out, HF.out.1, HF.out.2, S4.out⟩
              · skip
                exfalso; omega
            · skip
              by_cases k4 : e < b
              · skip
                have z1 : ¬ (j : Int) < (m : Int) := by omega
                have z2 : ¬ (m : Int) < (e : Int) := by omega
                have z3 : (a : Int) < (j : Int) := by omega
                have z4 : ¬ (j : Int) < (mid : Int) := by omega
                have z5 : ¬ (mid : Int) < (e : Int) := by omega
                have z6 : (e : Int) < (b : Int) := by omega
                have HD1 := Lib.hid (show d.toList = Pr ++ (L1 ++ (Q1 ++ (L2 ++ (Q2 ++ T)))) by
                  rw [HD.out]
                  rw [show L2 = [] from List.length_eq_zero_iff.1 (by have := HLN.out; omega)]; simp only [List.nil_append])
                have HD2 := Lib.hid (show d.toList = (Pr ++ (L1 ++ Q1)) ++ (L2 ++ (Q2 ++ T)) by rw [HD1.out]; simp only [List.append_assoc])
                have HP1 := Lib.hid (List.Perm.refl (L1 ++ Q1))
                have HR1 := Lib.hid (show Ris key Rl (L1 ++ Q1) by
                  rw [show Q1 = [] from List.length_eq_zero_iff.1 (by have := HLN.out; omega)]
                  rw [List.append_nil]; exact (List.pairwise_append.1 HB.out.2.2.2.2.1).1)
                have HF := Lib.hid (HFIN.out _ (L2 ++ Q2) HP1.out (List.Perm.refl _) HR1.out (by
                  rw [show L2 = [] from List.length_eq_zero_iff.1 (by have := HLN.out; omega)]
                  exact (List.pairwise_append.1 HB.out.2.2.2.2.2.1).2.1))
                have HD3 := Lib.hid (show d.toList = Pr ++ (((L1 ++ Q1) ++ (L2 ++ Q2)) ++ T) by rw [HD2.out]; simp only [List.append_assoc])
                go_wp2
                go_end0
                exact ⟨rfl, d, _, rfl, HD3.out, HF.out.1, HF.out.2, S1.out⟩
              · skip
                exfalso; omega
        · skip
          by_cases k2 : j < m
          · skip
            by_cases k3 : m < e
            · skip
              by_cases k4 : e < b
              · skip
                have z1 : (j : Int) < (m : Int) := by omega
                have z2 : (m : Int) < (e : Int) := by omega
                have z3 : ¬ (a : Int) < (j : Int) := by omega
                have z4 : (j : Int) < (mid : Int) := by omega
                have z5 : (mid : Int) < (e : Int) := by omega
                have z6 : (e : Int) < (b : Int) := by omega
                go_wp2_with fail
                refine (HRO.out _ S1.out (Pr ++ L1) L2 Q1 (Q2 ++ T) (by rw [HD.out]; simp only [List.append_assoc]) (by have := HLN.out; omega) (by have := HLN.out; omega) _ _ _ (by have := HLN.out; have := HP.out; rw [List.length_append]; omega) (by have := HLN.out; have := HP.out; rw [List.length_append]; omega) (by have := HLN.out; have := HP.out; rw [List.length_append]; omega)).mono ?_
                rintro _ w3 ⟨rfl, d1, f1, f2, f3⟩
                have S3 : Aside _ := f3
                have HD1 := Lib.hid (show d1.toList = Pr ++ (L1 ++ (Q1 ++ (L2 ++ (Q2 ++ T)))) by rw [f2]; simp only [List.append_assoc])
                have HS1 := Lib.hid f1
                clear f1 f2 f3 S1
                have HD2 := Lib.hid (show d1.toList = (Pr ++ (L1 ++ Q1)) ++ (L2 ++ (Q2 ++ T)) by rw [HD1.out]; simp only [List.append_assoc])
                have HP1 := Lib.hid (List.Perm.refl (L1 ++ Q1))
                have HR1 := Lib.hid (show Ris key Rl (L1 ++ Q1) by
                  rw [show L1 = [] from List.length_eq_zero_iff.1 (by have := HLN.out; omega)]
                  exact (List.pairwise_append.1 HB.out.2.2.2.2.2.1).1)
                have HML := Lib.hid (show (Pr ++ (L1 ++ Q1)).length = mid by rw [List.length_append, HP1.out.length_eq, List.length_append]; have := HLN.out; have := HP.out; omega)
                go_wp2_with fail
                refine (HIH.out d1 _ (by have := HS1.out; omega) S3.out (Pr ++ (L1 ++ Q1)) L2 Q2 T HD2.out (by have := HLN.out; have := HNL.out; omega) (by have := HLN.out; omega) (by have := HLN.out; omega) (List.pairwise_append.1 HB.out.2.2.2.2.1).2.1 (List.pairwise_append.1 HB.out.2.2.2.2.2.1).2.1 (fun x hx y hy => HB.out.2.2.2.2.2.2 x (List.mem_append_right _ hx) y (List.mem_append_right _ hy)) _ _ _ _ (by have := HS1.out; omega) (by have := HML.out; omega) (by have := HML.out; have := HLN.out; omega) (by have := HML.out; have := HLN.out; omega)).mono ?_
                rintro _ w5 ⟨rfl, d3, M2, f1, f2, p2, s2, f3⟩
                have S5 : Aside _ := f3
                have HF := Lib.hid (HFIN.out _ M2 HP1.out p2 HR1.out s2)
                have HD3 := Lib.hid (show d3.toList = Pr ++ (((L1 ++ Q1) ++ M2) ++ T) by rw [f2]; simp only [List.append_assoc])
                have HS3 := Lib.hid (show d3.size = d.size from f1.trans (HS1.out))
                clear f1 f2 f3 p2 s2 S3
                go_wp2
                go_end0
                exact ⟨rfl, d3, _, HS3.out, HD3.out, HF.out.1, HF.out.2, S5.out⟩
              · skip
                have z1 : (j : Int) < (m : Int) := by omega
                have z2 : (m : Int) < (e : Int) := by omega
                have z3 : ¬ (a : Int) < (j : Int) := by omega
                have z4 : (j : Int) < (mid : Int) := by omega
                have z5 : (mid : Int) < (e : Int) := by omega
                have z6 : ¬ (e : Int) < (b : Int) := by omega
                go_wp2_with fail
                refine (HRO.out _ S1.out (Pr ++ L1) L2 Q1 (Q2 ++ T) (by rw [HD.out]; simp only [List.append_assoc]) (by have := HLN.out; omega) (by have := HLN.out; omega) _ _ _ (by have := HLN.out; have := HP.out; rw [List.length_append]; omega) (by have := HLN.out; have := HP.out; rw [List.length_append]; omega) (by have := HLN.out; have := HP.out; rw [List.length_append]; omega)).mono ?_
                rintro _ w3 ⟨rfl, d1, f1, f2, f3⟩
                have S3 : Aside _ := f3
                have HD1 := Lib.hid (show d1.toList = Pr ++ (L1 ++ (Q1 ++ (L2 ++ (Q2 ++ T)))) by rw [f2]; simp only [List.append_assoc])
                have HS1 := Lib.hid f1
                clear f1 f2 f3 S1
                have HD2 := Lib.hid (show d1.toList = (Pr ++ (L1 ++ Q1)) ++ (L2 ++ (Q2 ++ T)) by rw [HD1.out]; simp only [List.append_assoc])
                have HP1 := Lib.hid (List.Perm.refl (L1 ++ Q1))
                have HR1 := Lib.hid (show Ris key Rl (L1 ++ Q1) by
                  rw [show L1 = [] from List.length_eq_zero_iff.1 (by have := HLN.out; omega)]
                  exact (List.pairwise_append.1 HB.out.2.2.2.2.2.1).1)
                have HF := Lib.hid (HFIN.out _ (L2 ++ Q2) HP1.out (List.Perm.refl _) HR1.out (by
                  rw [show Q2 = [] from List.length_eq_zero_iff.1 (by have := HLN.out; omega)]
                  rw [List.append_nil]; exact (List.pairwise_append.1 HB.out.2.2.2.2.1).2.1))
                have HD3 := Lib.hid (show d1.toList = Pr ++ (((L1 ++ Q1) ++ (L2 ++ Q2)) ++ T) by rw [HD2.out]; simp only [List.append_assoc])
                go_wp2
                go_end0
                exact ⟨rfl, d1, _, HS1.out, HD3.out, HF.out.1, HF.out.2, S3.out⟩
            · skip
              by_cases k4 : e < b
              · skip
                exfalso; omega
              · skip
                exfalso; omega
          · skip
            by_cases k3 : m < e
            · skip
              by_cases k4 : e < b
              · skip
                exfalso; omega
              · skip
                exfalso; omega
            · skip
              by_cases k4 : e < b
              · skip
                exfalso; omega
              · skip
                exfalso; omega
end
end Go.Proofs.Ythcjbljkokflgaa
