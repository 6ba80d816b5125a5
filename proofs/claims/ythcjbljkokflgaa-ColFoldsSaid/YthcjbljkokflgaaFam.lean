/- slices.symMerge, at items. -/
import Derived.Test.YthcjbljkokflgaaFal
set_option linter.unnecessarySimpa false
namespace Go.Proofs.Ythcjbljkokflgaa
open Go.RowKit
open Go.Lib hiding intOf
open Go.Sort Go.Proofs
set_option linter.unusedVariables false
set_option linter.unusedSimpArgs false
set_option maxRecDepth 1000000
def SymQ {α : Type} [Inhabited α] (key : α → Int) (Rl : α → α → Prop) (enc : α → List Value) (k : Nat) (w0 : World) (blk off : Nat) (d : Array α) (Pr T l : List α) (e : Ending) (w' : World) : Prop :=
  e = .returned (.tuple #[]) ∧ ∃ (d' : Array α) (M : List α), d'.size = d.size ∧ d'.toList = Pr ++ (M ++ T) ∧ M.Perm l ∧ Ris key Rl M ∧ SWK enc k w0 blk off d' w'
section
variable {α : Type} [Inhabited α]
set_option maxHeartbeats 8000000 in
theorem symA_any {P : Program} {k : Nat} (B : Bo P k) (enc : α → List Value) (blk off cap : Nat) (d0 : Array α) (w0 : World) (R : RowK enc k w0 blk off d0) (key : α → Int) (Rl : α → α → Prop) (cf : α → α → Int) (hcf : ∀ x y, cf x y < 0 ↔ key x < key y) (g : Nat) (cb : Array Value) (eg : ∀ args w, (callFunc g args).run P w = .ok (.enter g args) w) (hcmp : CmpLays P g cb enc k cf blk off d0.size w0) (d : Array α) (w : World) (hs : d0.size = d.size) (S0 : SWK enc k w0 blk off d w) (hsz : d.size < 4611686018427387904) (Pr Q T : List α) (x : α) (h : d.toList = Pr ++ (x :: (Q ++ T))) (hQ : Ris key Rl Q) (ht : ∀ y ∈ Q, Rl x y) (a m b : Nat) (ha : Pr.length = a) (hm : a + 1 = m) (hb : m + Q.length = b) :
    Calls P 84 #[.slice (some ⟨blk, off, none⟩) d.size cap, .int .i64 a, .int .i64 m, .int .i64 b, .func (.func g) #[] cb] w (SymQ key Rl enc k w0 blk off d Pr T (x :: Q)) := by
  have hlen : d.size = a + (1 + (Q.length + T.length)) := by rw [← Array.length_toList, h]; simp only [List.length_append, List.length_cons]; omega
  have hx : d[a]! = x := ha ▸ arr_get d Pr (Q ++ T) x h
  have h' : d.toList = (Pr ++ [x]) ++ (Q ++ T) := by rw [h]; simp
  have hml : (Pr ++ [x]).length = m := by rw [List.length_append, ha]; exact hm
  have HM := Lib.hid (fun s t h1 h2 h3 => run_mono (k := key) d (Pr ++ [x]) Q T h' hQ s t h1 h2 h3)
  rw [hml] at HM
  have HAT := Lib.hid (fun t (ht : t < Q.length) => arr_at d (Pr ++ [x]) Q T h' t ht)
  rw [hml] at HAT
  have HRI := Lib.hid (fun (A B : List α) (e : A ++ B = Q) (hA : ∀ y ∈ A, key y < key x) (hB : ∀ y ∈ B, key x ≤ key y) => (show Ris key Rl (A ++ x :: B) from ris_left (e ▸ hQ) hA hB (fun y hy => ht y (e ▸ hy))))
  have HX := Lib.hid hx
  have HH := Lib.hid h
  have HP := Lib.hid ha
  have HL := Lib.hid hb
  have HS0 : Aside _ := S0
  have HC : Aside _ := hcmp
  have bb : b ≤ d.size := by omega
  have bm : m ≤ b := by omega
  have am : a < m := by omega
  have hma : (m : Int) - (a : Int) = 1 := by omega
  have HCF := Lib.hid hcf
  clear S0 hcmp h h' ha hQ ht hml hx hlen hb hcf hm
  have mixed := B.mixed; have t0 := B.t0; have a0 := B.a0; have z0 := B.z0; have v0 := B.v0; have t1 := B.t1; have a1 := B.a1; have z1 := B.z1; have v1 := B.v1; have t2 := B.t2; have a2 := B.a2; have z2 := B.z2; have v2 := B.v2; have t3 := B.t3; have a3 := B.a3; have z3 := B.z3; have v3 := B.v3; have t4 := B.t4; have a4 := B.a4; have z4 := B.z4; have v4 := B.v4; have t5 := B.t5; have a5 := B.a5; have z5 := B.z5; have v5 := B.v5; have aE := B.aE; have zE := B.zE
  go_enter B.f_sm, Try.ntmps84
  go_wp2
  go_loopw [10, 11] (fun si sj wr => ∃ (i j : Nat), si = .int .i64 i ∧ sj = .int .i64 j ∧ m ≤ i ∧ i ≤ j ∧ j ≤ b ∧ Aside (SWK enc k w0 blk off d wr) ∧ Hid (∀ t, m ≤ t → t < i → key d[t]! < key x) ∧ Hid (∀ t, j ≤ t → t < b → key x ≤ key d[t]!)) (fun si sj _ => (intOf sj).toNat - (intOf si).toNat)
  case atStart => exact ⟨m, b, rfl, rfl, Nat.le_refl _, bm, Nat.le_refl _, HS0, (fun t h1 h2 => absurd h2 (by omega)), (fun t h1 h2 => absurd h2 (by omega))⟩
  case round =>
    obtain ⟨i, j, rfl, rfl, hmi, hij, hjb, S1, HI, HJ⟩ := hrel
    clear HS0
    by_cases hlt : i < j
    · have hltz : (i : Int) < (j : Int) := by omega
      obtain ⟨hh, ehh⟩ : ∃ q, (i + j) / 2 = q := ⟨_, rfl⟩
      have ehz : ((i : Int) + (j : Int)) / 2 = (hh : Int) := by omega
      have b1 : i ≤ hh := by omega
      have b2 : hh < j := by omega
      clear ehh
      by_cases hv : cf d[hh]! d[a]! < 0
      · have HV := Lib.hid hv
        clear hv
        go_wp2_with fail
        have ea44 : ((hh : Int)).toNat = hh := by omega
        have pa44 : (0 : Int) ≤ (hh : Int) := by omega
        have ba44 : (hh : Int) < (d.size : Int) := by omega
        have ra44 : IntKind.i64.wrap ((hh : Int)) = (hh : Int) := by rw [IntKind.wrap_i64]; omega
        have ec44 : ((a : Int)).toNat = a := by omega
        have pc44 : (0 : Int) ≤ (a : Int) := by omega
        have bc44 : (a : Int) < (d.size : Int) := by omega
        have rc44 : IntKind.i64.wrap ((a : Int)) = (a : Int) := by rw [IntKind.wrap_i64]; omega
        obtain ⟨x44, hx44⟩ : ∃ x, x = d[hh]! := ⟨_, rfl⟩
        obtain ⟨y44, hy44⟩ : ∃ x, x = d[a]! := ⟨_, rfl⟩
        have l44a := S1.out.ld R (by omega) P (hh) (by omega)
        have l44b := S1.out.ld R (by omega) P (a) (by omega)
        rw [← hx44] at l44a
        rw [← hy44] at l44b
        have hc44 := S1.out.cmp HC.out (by omega) x44 y44
        have hv44 : cf x44 y44 < 0 := by rw [hx44, hy44]; exact (by have := HV.out; omega)
        have hd44 : decide (cf x44 y44 < 0) = true := decide_eq_true hv44
        clear hx44 hy44
        go_wp2_with fail
        go_quiet_grown (first | (go_at_fn g; refine Calls.grown_of (hc44 _ _)))
        have S2 : Aside (SWK enc k w0 blk off d (grow (wr.drewN nq) osq)) := S1.out.grown nq osq
        clear l44a l44b hc44 S1
        generalize grow (wr.drewN nq) osq = w2 at S2 ⊢
        clear nq osq hv44
        have HI2 := Lib.hid (show ∀ t, m ≤ t → t < hh + 1 → key d[t]! < key x from fun t h1 h2 => by
          have e1 := (HCF.out _ _).1 HV.out
          rw [HX.out] at e1
          have e2 := HM.out t hh h1 (by omega) (by have := HL.out; omega)
          omega)
        clear HV
        go_wp2
        go_roundw
        case rel => exact ⟨hh + 1, j, by go_num, rfl, by omega, by omega, hjb, S2, HI2, HJ⟩
        case measure => simp [intOf]; omega
      · have HV := Lib.hid hv
        clear hv
        go_wp2_with fail
        have ea44 : ((hh : Int)).toNat = hh := by omega
        have pa44 : (0 : Int) ≤ (hh : Int) := by omega
        have ba44 : (hh : Int) < (d.size : Int) := by omega
        have ra44 : IntKind.i64.wrap ((hh : Int)) = (hh : Int) := by rw [IntKind.wrap_i64]; omega
        have ec44 : ((a : Int)).toNat = a := by omega
        have pc44 : (0 : Int) ≤ (a : Int) := by omega
        have bc44 : (a : Int) < (d.size : Int) := by omega
        have rc44 : IntKind.i64.wrap ((a : Int)) = (a : Int) := by rw [IntKind.wrap_i64]; omega
        obtain ⟨x44, hx44⟩ : ∃ x, x = d[hh]! := ⟨_, rfl⟩
        obtain ⟨y44, hy44⟩ : ∃ x, x = d[a]! := ⟨_, rfl⟩
        have l44a := S1.out.ld R (by omega) P (hh) (by omega)
        have l44b := S1.out.ld R (by omega) P (a) (by omega)
        rw [← hx44] at l44a
        rw [← hy44] at l44b
        have hc44 := S1.out.cmp HC.out (by omega) x44 y44
        have hv44 : ¬ cf x44 y44 < 0 := by rw [hx44, hy44]; exact (by have := HV.out; omega)
        have hd44 : decide (cf x44 y44 < 0) = false := decide_eq_false hv44
        clear hx44 hy44
        go_wp2_with fail
        go_quiet_grown (first | (go_at_fn g; refine Calls.grown_of (hc44 _ _)))
        have S2 : Aside (SWK enc k w0 blk off d (grow (wr.drewN nq) osq)) := S1.out.grown nq osq
        clear l44a l44b hc44 S1
        generalize grow (wr.drewN nq) osq = w2 at S2 ⊢
        clear nq osq hv44
        have HJ2 := Lib.hid (show ∀ t, hh ≤ t → t < b → key x ≤ key d[t]! from fun t h1 h2 => by
          have e1 : ¬ key d[hh]! < key d[a]! := fun e => by have e3 := HV.out; have := (HCF.out _ _).2 e; omega
          rw [HX.out] at e1
          have e2 := HM.out hh t (by omega) h1 (by have := HL.out; omega)
          omega)
        clear HV
        go_wp2
        go_roundw
        case rel => exact ⟨i, hh, rfl, rfl, hmi, by omega, by omega, S2, HI, HJ2⟩
        case measure => simp [intOf]; omega
    · obtain rfl : j = i := by omega
      have HR := Lib.hid (HRI.out (Q.take (j - m)) (Q.drop (j - m)) (List.take_append_drop _ _) (fun y hy => by
        obtain ⟨t, h1, h2, rfl⟩ := mem_take_at hy
        rw [← HAT.out t h2]
        exact HI.out _ (by omega) (by omega)) (fun y hy => by
        obtain ⟨t, h1, h2, rfl⟩ := mem_drop_at hy
        rw [← HAT.out t h2]
        exact HJ.out _ (by omega) (by have := HL.out; omega)))
      clear HI HJ HRI HM HAT
      go_wp2
      go_loopw [13] (fun sk wr => ∃ (q : Nat) (dk : Array α), sk = .int .i64 ((a + q : Nat) : Int) ∧ q ≤ j - m ∧ dk.size = d.size ∧ Aside (SWK enc k w0 blk off dk wr) ∧ Hid (dk.toList = Pr ++ (Q.take q ++ x :: (Q.drop q ++ T)))) (fun sk _ => j - (intOf sk).toNat)
      case atStart => exact ⟨0, d, by simp, Nat.zero_le _, rfl, S1, by show _ = _; rw [HH.out]; simp⟩
      case round =>
        obtain ⟨q, dk, rfl, hq, hds, S2, HD⟩ := hrel
        clear S1
        by_cases hqj : q < j - m
        · have qz : ((a + q : Nat) : Int) < (j : Int) - 1 := by omega
          obtain ⟨p, hp⟩ : ∃ p, a + q = p := ⟨_, rfl⟩
          have HPQ := Lib.hid hp
          rw [hp] at qz ⊢
          have hpj : p + 1 < j := by omega
          clear hp
          go_wp2_with fail
          have ea45 : ((p : Int)).toNat = p := by omega
          have pa45 : (0 : Int) ≤ (p : Int) := by omega
          have ba45 : (p : Int) < (d.size : Int) := by omega
          have ra45 : IntKind.i64.wrap ((p : Int)) = (p : Int) := by rw [IntKind.wrap_i64]; omega
          have ec45 : ((p : Int) + 1).toNat = p + 1 := by omega
          have pc45 : (0 : Int) ≤ (p : Int) + 1 := by omega
          have bc45 : (p : Int) + 1 < (d.size : Int) := by omega
          have rc45 : IntKind.i64.wrap ((p : Int) + 1) = (p : Int) + 1 := by rw [IntKind.wrap_i64]; omega
          have S3 : Aside (SWK enc k w0 blk off (swp dk (p) (p + 1)) ((wr.drew.setCells blk (off + (p) * k) (enc dk[p + 1]!)).setCells blk (off + (p + 1) * k) (enc dk[p]!))) := S2.out.swapped R (p) (p + 1) (by omega) (by omega)
          have l45a := S2.out.ld1 R (by omega) P (p) (by omega)
          have l45b := S2.out.ld1 R (by omega) P (p + 1) (by omega)
          have s45a := S2.out.st1 R (by omega) P (p) (by omega) dk[p + 1]!
          have s45b := S2.out.st2 R (by omega) P (p) (p + 1) (by omega) (by omega) dk[p + 1]! dk[p]!
          have n45a : (enc dk[p]!).length = k := R.hk _
          have n45b : (enc dk[p + 1]!).length = k := R.hk _
          generalize enc dk[p]! = cI45 at S3 l45a s45b n45a
          generalize enc dk[p + 1]! = cJ45 at S3 l45b s45a s45b n45b
          clear S2
          go_wp2_with fail
          go_big_region_o
          clear l45a l45b s45a s45b
          generalize (wr.drew.setCells blk (off + (p) * k) cJ45).setCells blk (off + (p + 1) * k) cI45 = w3 at S3 ⊢
          have HD2 := Lib.hid (show (swp dk p (p + 1)).toList = Pr ++ (Q.take (q + 1) ++ x :: (Q.drop (q + 1) ++ T)) by
            have hql : q < Q.length := by have := HL.out; omega
            have e := shift_right dk Pr (Q.take q) x Q[q] (Q.drop (q + 1) ++ T) (by rw [HD.out, List.drop_eq_getElem_cons hql, List.cons_append])
            rw [List.length_take, Nat.min_eq_left (by omega), HP.out, HPQ.out] at e
            rw [e, List.take_succ_eq_append_getElem hql])
          have HE := Lib.hid (show (p : Int) + 1 = ((a + (q + 1) : Nat) : Int) by have := HPQ.out; omega)
          go_wp2
          go_roundw
          case rel => exact ⟨q + 1, swp dk p (p + 1), by rw [HE.out], by omega, by rw [size_swp]; exact hds, S3, HD2⟩
          case measure => simp [intOf]; have := HPQ.out; omega
        · have qz : ¬ ((a + q : Nat) : Int) < (j : Int) - 1 := by omega
          obtain ⟨p, hp⟩ : ∃ p, a + q = p := ⟨_, rfl⟩
          rw [hp] at qz ⊢
          have H9 := Lib.hid (show dk.toList = Pr ++ ((Q.take (j - m) ++ x :: Q.drop (j - m)) ++ T) by rw [HD.out, show q = j - m by omega]; simp)
          have H8 := Lib.hid (show (Q.take (j - m) ++ x :: Q.drop (j - m)).Perm (x :: Q) by
            have := List.perm_middle (a := x) (l₁ := Q.take (j - m)) (l₂ := Q.drop (j - m))
            rwa [List.take_append_drop] at this)
          clear hp HD
          go_wp2
          (try simp only [Exit.inBlock, Exit.then]); refine bodyPost_ret (results_none rfl _ _ _) rfl ?_
          exact ⟨rfl, dk, _, hds, H9.out, H8.out, HR.out, S2.out⟩
set_option maxHeartbeats 8000000 in
theorem symB_any {P : Program} {k : Nat} (B : Bo P k) (enc : α → List Value) (blk off cap : Nat) (d0 : Array α) (w0 : World) (R : RowK enc k w0 blk off d0) (key : α → Int) (Rl : α → α → Prop) (cf : α → α → Int) (hcf : ∀ x y, cf x y < 0 ↔ key x < key y) (g : Nat) (cb : Array Value) (eg : ∀ args w, (callFunc g args).run P w = .ok (.enter g args) w) (hcmp : CmpLays P g cb enc k cf blk off d0.size w0) (d : Array α) (w : World) (hs : d0.size = d.size) (S0 : SWK enc k w0 blk off d w) (hsz : d.size < 4611686018427387904) (Pr L T : List α) (y : α) (h : d.toList = Pr ++ (L ++ (y :: T))) (hL : Ris key Rl L) (h2 : 2 ≤ L.length) (ht : ∀ x ∈ L, Rl x y) (a m b : Nat) (ha : Pr.length = a) (hm : a + L.length = m) (hb : m + 1 = b) :
    Calls P 84 #[.slice (some ⟨blk, off, none⟩) d.size cap, .int .i64 a, .int .i64 m, .int .i64 b, .func (.func g) #[] cb] w (SymQ key Rl enc k w0 blk off d Pr T (L ++ [y])) := by
  have hlen : d.size = a + (L.length + (1 + T.length)) := by rw [← Array.length_toList, h]; simp only [List.length_append, List.length_cons]; omega
  have h' : d.toList = (Pr ++ L) ++ (y :: T) := by rw [h]; simp
  have hml : (Pr ++ L).length = m := by rw [List.length_append, ha]; exact hm
  have hx : d[m]! = y := hml ▸ arr_get d (Pr ++ L) T y h'
  have HM := Lib.hid (fun s t h1 h2 h3 => run_mono (k := key) d Pr L (y :: T) h hL s t h1 h2 h3)
  rw [ha] at HM
  have HAT := Lib.hid (fun t (ht : t < L.length) => arr_at d Pr L (y :: T) h t ht)
  rw [ha] at HAT
  have HRI := Lib.hid (fun (A B : List α) (e : A ++ B = L) (hA : ∀ x ∈ A, key x ≤ key y) (hB : ∀ x ∈ B, key y < key x) => (show Ris key Rl (A ++ y :: B) from ris_right (e ▸ hL) hA hB (fun x hx => ht x (e ▸ hx))))
  have HX := Lib.hid hx
  have HH := Lib.hid h
  have HP := Lib.hid ha
  have HL := Lib.hid hm
  have HS0 : Aside _ := S0
  have HC : Aside _ := hcmp
  have bb : m < d.size := by omega
  have bm : a + 2 ≤ m := by omega
  have hma : ((m : Int) - (a : Int) == 1) = false := by simp; omega
  have hbm : (b : Int) - (m : Int) = 1 := by omega
  have HCF := Lib.hid hcf
  clear S0 hcmp h h' ha hL ht hml hx hlen hm hcf hb h2
  have mixed := B.mixed; have t0 := B.t0; have a0 := B.a0; have z0 := B.z0; have v0 := B.v0; have t1 := B.t1; have a1 := B.a1; have z1 := B.z1; have v1 := B.v1; have t2 := B.t2; have a2 := B.a2; have z2 := B.z2; have v2 := B.v2; have t3 := B.t3; have a3 := B.a3; have z3 := B.z3; have v3 := B.v3; have t4 := B.t4; have a4 := B.a4; have z4 := B.z4; have v4 := B.v4; have t5 := B.t5; have a5 := B.a5; have z5 := B.z5; have v5 := B.v5; have aE := B.aE; have zE := B.zE
  go_enter B.f_sm, Try.ntmps84
  go_wp2
  go_loopw [14, 15] (fun si sj wr => ∃ (i j : Nat), si = .int .i64 i ∧ sj = .int .i64 j ∧ a ≤ i ∧ i ≤ j ∧ j ≤ m ∧ Aside (SWK enc k w0 blk off d wr) ∧ Hid (∀ t, a ≤ t → t < i → key d[t]! ≤ key y) ∧ Hid (∀ t, j ≤ t → t < m → key y < key d[t]!)) (fun si sj _ => (intOf sj).toNat - (intOf si).toNat)
  case atStart => exact ⟨a, m, rfl, rfl, Nat.le_refl _, by omega, Nat.le_refl _, HS0, (fun t h1 h2 => absurd h2 (by omega)), (fun t h1 h2 => absurd h2 (by omega))⟩
  case round =>
    obtain ⟨i, j, rfl, rfl, hmi, hij, hjb, S1, HI, HJ⟩ := hrel
    clear HS0
    by_cases hlt : i < j
    · have hltz : (i : Int) < (j : Int) := by omega
      obtain ⟨hh, ehh⟩ : ∃ q, (i + j) / 2 = q := ⟨_, rfl⟩
      have ehz : ((i : Int) + (j : Int)) / 2 = (hh : Int) := by omega
      have b1 : i ≤ hh := by omega
      have b2 : hh < j := by omega
      clear ehh
      by_cases hv : cf d[m]! d[hh]! < 0
      · have HV := Lib.hid hv
        clear hv
        go_wp2_with fail
        have ea44 : ((m : Int)).toNat = m := by omega
        have pa44 : (0 : Int) ≤ (m : Int) := by omega
        have ba44 : (m : Int) < (d.size : Int) := by omega
        have ra44 : IntKind.i64.wrap ((m : Int)) = (m : Int) := by rw [IntKind.wrap_i64]; omega
        have ec44 : ((hh : Int)).toNat = hh := by omega
        have pc44 : (0 : Int) ≤ (hh : Int) := by omega
        have bc44 : (hh : Int) < (d.size : Int) := by omega
        have rc44 : IntKind.i64.wrap ((hh : Int)) = (hh : Int) := by rw [IntKind.wrap_i64]; omega
        obtain ⟨x44, hx44⟩ : ∃ x, x = d[m]! := ⟨_, rfl⟩
        obtain ⟨y44, hy44⟩ : ∃ x, x = d[hh]! := ⟨_, rfl⟩
        have l44a := S1.out.ld R (by omega) P (m) (by omega)
        have l44b := S1.out.ld R (by omega) P (hh) (by omega)
        rw [← hx44] at l44a
        rw [← hy44] at l44b
        have hc44 := S1.out.cmp HC.out (by omega) x44 y44
        have hv44 : cf x44 y44 < 0 := by rw [hx44, hy44]; exact (by have := HV.out; omega)
        have hd44 : decide (cf x44 y44 < 0) = true := decide_eq_true hv44
        clear hx44 hy44
        go_wp2_with fail
        go_quiet_grown (first | (go_at_fn g; refine Calls.grown_of (hc44 _ _)))
        have S2 : Aside (SWK enc k w0 blk off d (grow (wr.drewN nq) osq)) := S1.out.grown nq osq
        clear l44a l44b hc44 S1
        generalize grow (wr.drewN nq) osq = w2 at S2 ⊢
        clear nq osq hv44
        have HJ2 := Lib.hid (show ∀ t, hh ≤ t → t < m → key y < key d[t]! from fun t h1 h2 => by
          have e1 := (HCF.out _ _).1 HV.out
          rw [HX.out] at e1
          have e2 := HM.out hh t (by omega) h1 (by have := HL.out; omega)
          omega)
        clear HV
        go_wp2
        go_roundw
        case rel => exact ⟨i, hh, rfl, rfl, hmi, by omega, by omega, S2, HI, HJ2⟩
        case measure => simp [intOf]; omega
      · have HV := Lib.hid hv
        clear hv
        go_wp2_with fail
        have ea44 : ((m : Int)).toNat = m := by omega
        have pa44 : (0 : Int) ≤ (m : Int) := by omega
        have ba44 : (m : Int) < (d.size : Int) := by omega
        have ra44 : IntKind.i64.wrap ((m : Int)) = (m : Int) := by rw [IntKind.wrap_i64]; omega
        have ec44 : ((hh : Int)).toNat = hh := by omega
        have pc44 : (0 : Int) ≤ (hh : Int) := by omega
        have bc44 : (hh : Int) < (d.size : Int) := by omega
        have rc44 : IntKind.i64.wrap ((hh : Int)) = (hh : Int) := by rw [IntKind.wrap_i64]; omega
        obtain ⟨x44, hx44⟩ : ∃ x, x = d[m]! := ⟨_, rfl⟩
        obtain ⟨y44, hy44⟩ : ∃ x, x = d[hh]! := ⟨_, rfl⟩
        have l44a := S1.out.ld R (by omega) P (m) (by omega)
        have l44b := S1.out.ld R (by omega) P (hh) (by omega)
        rw [← hx44] at l44a
        rw [← hy44] at l44b
        have hc44 := S1.out.cmp HC.out (by omega) x44 y44
        have hv44 : ¬ cf x44 y44 < 0 := by rw [hx44, hy44]; exact (by have := HV.out; omega)
        have hd44 : decide (cf x44 y44 < 0) = false := decide_eq_false hv44
        clear hx44 hy44
        go_wp2_with fail
        go_quiet_grown (first | (go_at_fn g; refine Calls.grown_of (hc44 _ _)))
        have S2 : Aside (SWK enc k w0 blk off d (grow (wr.drewN nq) osq)) := S1.out.grown nq osq
        clear l44a l44b hc44 S1
        generalize grow (wr.drewN nq) osq = w2 at S2 ⊢
        clear nq osq hv44
        have HI2 := Lib.hid (show ∀ t, a ≤ t → t < hh + 1 → key d[t]! ≤ key y from fun t h1 h2 => by
          have e1 : ¬ key d[m]! < key d[hh]! := fun e => by have e3 := HV.out; have := (HCF.out _ _).2 e; omega
          rw [HX.out] at e1
          have e2 := HM.out t hh h1 (by omega) (by have := HL.out; omega)
          omega)
        clear HV
        go_wp2
        go_roundw
        case rel => exact ⟨hh + 1, j, by go_num, rfl, by omega, by omega, hjb, S2, HI2, HJ⟩
        case measure => simp [intOf]; omega
    · obtain rfl : j = i := by omega
      have HR := Lib.hid (HRI.out (L.take (j - a)) (L.drop (j - a)) (List.take_append_drop _ _) (fun y hy => by
        obtain ⟨t, h1, h2, rfl⟩ := mem_take_at hy
        rw [← HAT.out t h2]
        exact HI.out _ (by omega) (by omega)) (fun y hy => by
        obtain ⟨t, h1, h2, rfl⟩ := mem_drop_at hy
        rw [← HAT.out t h2]
        exact HJ.out _ (by omega) (by have := HL.out; omega)))
      clear HI HJ HRI HM HAT
      go_wp2
      go_loopw [17] (fun sk wr => ∃ (q : Nat) (dk : Array α), sk = .int .i64 ((a + q : Nat) : Int) ∧ j - a ≤ q ∧ q ≤ L.length ∧ dk.size = d.size ∧ Aside (SWK enc k w0 blk off dk wr) ∧ Hid (dk.toList = Pr ++ (L.take q ++ y :: (L.drop q ++ T)))) (fun sk _ => (intOf sk).toNat - j)
      case atStart => exact ⟨L.length, d, by rw [HL.out], by have := HL.out; omega, Nat.le_refl _, rfl, S1, by show _ = _; rw [HH.out, List.take_length, List.drop_length]; rfl⟩
      case round =>
        obtain ⟨q, dk, rfl, hjq, hq, hds, S2, HD⟩ := hrel
        clear S1
        have hLm := HL.out
        by_cases hqj : j - a < q
        · obtain ⟨q', rfl⟩ : ∃ u, q = u + 1 := ⟨q - 1, by omega⟩
          obtain ⟨p, hp⟩ : ∃ p, a + q' = p := ⟨_, rfl⟩
          have HPQ := Lib.hid hp
          have hpp : a + (q' + 1) = p + 1 := by omega
          rw [hpp]
          have qz : ((p + 1 : Nat) : Int) > (j : Int) := by omega
          have qz2 : (p : Int) + 1 > (j : Int) := by omega
          have hpj : p + 1 ≤ m := by omega
          clear hp hpp
          go_wp2_with fail
          have ea45 : ((p : Int) + 1).toNat = p + 1 := by omega
          have pa45 : (0 : Int) ≤ (p : Int) + 1 := by omega
          have ba45 : (p : Int) + 1 < (d.size : Int) := by omega
          have ra45 : IntKind.i64.wrap ((p : Int) + 1) = (p : Int) + 1 := by rw [IntKind.wrap_i64]; omega
          have ec45 : ((p : Int)).toNat = p := by omega
          have pc45 : (0 : Int) ≤ (p : Int) := by omega
          have bc45 : (p : Int) < (d.size : Int) := by omega
          have rc45 : IntKind.i64.wrap ((p : Int)) = (p : Int) := by rw [IntKind.wrap_i64]; omega
          have S3 : Aside (SWK enc k w0 blk off (swp dk (p + 1) (p)) ((wr.drew.setCells blk (off + (p + 1) * k) (enc dk[p]!)).setCells blk (off + (p) * k) (enc dk[p + 1]!))) := S2.out.swapped R (p + 1) (p) (by omega) (by omega)
          have l45a := S2.out.ld1 R (by omega) P (p + 1) (by omega)
          have l45b := S2.out.ld1 R (by omega) P (p) (by omega)
          have s45a := S2.out.st1 R (by omega) P (p + 1) (by omega) dk[p]!
          have s45b := S2.out.st2 R (by omega) P (p + 1) (p) (by omega) (by omega) dk[p]! dk[p + 1]!
          have n45a : (enc dk[p + 1]!).length = k := R.hk _
          have n45b : (enc dk[p]!).length = k := R.hk _
          generalize enc dk[p + 1]! = cI45 at S3 l45a s45b n45a
          generalize enc dk[p]! = cJ45 at S3 l45b s45a s45b n45b
          clear S2
          go_wp2_with fail
          go_big_region_o
          clear l45a l45b s45a s45b
          generalize (wr.drew.setCells blk (off + (p + 1) * k) cJ45).setCells blk (off + (p) * k) cI45 = w3 at S3 ⊢
          have HD2 := Lib.hid (show (swp dk (p + 1) p).toList = Pr ++ (L.take q' ++ y :: (L.drop q' ++ T)) by
            have hql : q' < L.length := by omega
            have e := shift_left dk Pr (L.take q') L[q'] y (L.drop (q' + 1) ++ T) (by rw [HD.out, List.take_succ_eq_append_getElem hql]; simp only [List.append_assoc, List.cons_append, List.nil_append])
            rw [List.length_take, Nat.min_eq_left (by omega), HP.out, HPQ.out] at e
            rw [e, List.drop_eq_getElem_cons hql, List.cons_append])
          have HE := Lib.hid (show (p : Int) = ((a + q' : Nat) : Int) by have := HPQ.out; omega)
          go_wp2
          go_roundw
          case rel => exact ⟨q', swp dk (p + 1) p, by rw [HE.out], by omega, by omega, by rw [size_swp]; exact hds, S3, HD2⟩
          case measure => simp [intOf]; have := HPQ.out; omega
        · obtain ⟨p, hp⟩ : ∃ p, a + q = p := ⟨_, rfl⟩
          have qz : ¬ ((p : Nat) : Int) > (j : Int) := by omega
          rw [hp]
          have H9 := Lib.hid (show dk.toList = Pr ++ ((L.take (j - a) ++ y :: L.drop (j - a)) ++ T) by rw [HD.out, show q = j - a by omega]; simp)
          have H8 := Lib.hid (show (L.take (j - a) ++ y :: L.drop (j - a)).Perm (L ++ [y]) by
            have h1 := List.perm_middle (a := y) (l₁ := L.take (j - a)) (l₂ := L.drop (j - a))
            rw [List.take_append_drop] at h1
            exact h1.trans (List.perm_append_singleton y L).symm)
          clear hp HD hLm
          go_wp2
          (try simp only [Exit.inBlock, Exit.then]); refine bodyPost_ret (results_none rfl _ _ _) rfl ?_
          exact ⟨rfl, dk, _, hds, H9.out, H8.out, HR.out, S2.out⟩
end
end Go.Proofs.Ythcjbljkokflgaa
