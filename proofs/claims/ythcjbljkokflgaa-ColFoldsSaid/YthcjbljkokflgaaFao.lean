/- slices.stable at items, any length: sorted by key, then by Rl. -/
import Derived.Test.YthcjbljkokflgaaFan
set_option linter.unnecessarySimpa false
/- slices.insertionSort at items, stable; symMerge at any lengths. -/
namespace Go.Proofs.Ythcjbljkokflgaa
open Go.RowKit
open Go.Lib hiding intOf
open Go.Sort Go.Proofs
set_option linter.unusedVariables false
set_option linter.unusedSimpArgs false
set_option maxRecDepth 1000000
section
variable {α : Type} [Inhabited α]
set_option maxHeartbeats 8000000 in
theorem ins_any {P : Program} {k : Nat} (B : Bo P k) (enc : α → List Value) (blk off cap : Nat) (d0 : Array α) (w0 : World) (R : RowK enc k w0 blk off d0) (key : α → Int) (Rl : α → α → Prop) (cf : α → α → Int) (hcf : ∀ x y, cf x y < 0 ↔ key x < key y) (g : Nat) (cb : Array Value) (eg : ∀ args w, (callFunc g args).run P w = .ok (.enter g args) w) (hcmp : CmpLays P g cb enc k cf blk off d0.size w0) (d : Array α) (w : World) (hs : d0.size = d.size) (S0 : SWK enc k w0 blk off d w) (hsz : d.size < 1000000000) (Pr X T : List α) (h : d.toList = Pr ++ (X ++ T)) (hX : X.Pairwise Rl) (a b : Nat) (ha : Pr.length = a) (hb : a + X.length = b) :
    Calls P 83 #[.slice (some ⟨blk, off, none⟩) d.size cap, .int .i64 a, .int .i64 b, .func (.func g) #[] cb] w (SymQ key Rl enc k w0 blk off d Pr T X) := by
  have hlen : d.size = a + (X.length + T.length) := by rw [← Array.length_toList, h]; simp only [List.length_append]; omega
  have HH := Lib.hid h
  have HP := Lib.hid ha
  have HB := Lib.hid hb
  have HS0 : Aside _ := S0
  have HC : Aside _ := hcmp
  have HCF := Lib.hid hcf
  have HXP := Lib.hid hX
  have bb : b ≤ d.size := by omega
  have ba : a ≤ b := by omega
  clear S0 hcmp h ha hcf hX hlen hb
  have mixed := B.mixed; have t0 := B.t0; have a0 := B.a0; have z0 := B.z0; have v0 := B.v0; have t1 := B.t1; have a1 := B.a1; have z1 := B.z1; have v1 := B.v1; have t2 := B.t2; have a2 := B.a2; have z2 := B.z2; have v2 := B.v2; have t3 := B.t3; have a3 := B.a3; have z3 := B.z3; have v3 := B.v3; have t4 := B.t4; have a4 := B.a4; have z4 := B.z4; have v4 := B.v4; have t5 := B.t5; have a5 := B.a5; have z5 := B.z5; have v5 := B.v5; have aE := B.aE; have zE := B.zE
  go_enter B.f_is, Try.ntmps83
  go_wp2
  go_loopw [8] (fun si wr => ∃ (q : Nat) (S : List α) (dk : Array α), si = .int .i64 ((a + q : Nat) : Int) ∧ 1 ≤ q ∧ a + q ≤ b + 1 ∧ dk.size = d.size ∧ Aside (SWK enc k w0 blk off dk wr) ∧ Hid (dk.toList = Pr ++ (S ++ (X.drop q ++ T)) ∧ S.Perm (X.take q) ∧ Ris key Rl S)) (fun si _ => b + 1 - (intOf si).toNat)
  case atStart => exact ⟨1, X.take 1, d, by go_num, Nat.le_refl _, by omega, rfl, HS0, (by show _ ∧ _ ∧ _; exact ⟨by rw [HH.out, ← List.append_assoc (X.take 1), List.take_append_drop], List.Perm.refl _, by
      cases X with
      | nil => exact List.Pairwise.nil
      | cons x X => exact List.pairwise_singleton _ _⟩)⟩
  case round =>
    obtain ⟨q, S, dk, rfl, hq1, hqb, hds, S1, HD⟩ := hrel
    clear HS0
    obtain ⟨i, hiq⟩ : ∃ i, a + q = i := ⟨_, rfl⟩
    have HIQ := Lib.hid hiq
    rw [hiq]
    rw [hiq] at hqb
    have hia : a + 1 ≤ i := by omega
    clear hiq
    by_cases hlt : i < b
    · have hltz : (i : Int) < (b : Int) := by omega
      have hql : q < X.length := by have := HB.out; have := HIQ.out; omega
      have HQL := Lib.hid hql
      obtain ⟨x, hx⟩ : ∃ x, X[q]? = some x := ⟨X[q], List.getElem?_eq_getElem hql⟩
      have hdr := drop_cons_of hx
      have htk := take_snoc_of hx
      have hSl : S.length = q := by rw [HD.out.2.1.length_eq, List.length_take]; omega
      have HSL := Lib.hid hSl
      have HTG := Lib.hid (show ∀ y ∈ S, Rl y x from fun y hy => by
        have hy2 := HD.out.2.1.mem_iff.1 hy
        have h2 : X = X.take q ++ x :: X.drop (q + 1) := by rw [← hdr, List.take_append_drop]
        have h3 := HXP.out
        rw [h2] at h3
        exact (List.pairwise_append.1 h3).2.2 y hy2 x List.mem_cons_self)
      have HST := Lib.hid (show dk.toList = Pr ++ (S.take q ++ x :: (S.drop q ++ (X.drop (q + 1) ++ T))) by
        rw [HD.out.1, List.take_of_length_le (l := S) (by omega), List.drop_of_length_le (l := S) (by omega), hdr]; simp)
      have HPM := Lib.hid (fun (M : List α) (hM : M.Perm (x :: S)) => show M.Perm (X.take (q + 1)) from by
        rw [htk]
        exact hM.trans ((List.Perm.cons x HD.out.2.1).trans (List.perm_append_singleton x _).symm))
      have HRS := Lib.hid HD.out.2.2
      have HI1 := Lib.hid (show (i : Int) + 1 = ((a + (q + 1) : Nat) : Int) by have := HIQ.out; omega)
      clear HD hx hSl hql hdr htk
      go_wp2
      go_loopw [9] (fun sj wr => ∃ (p : Nat) (dj : Array α), sj = .int .i64 ((a + p : Nat) : Int) ∧ p ≤ q ∧ dj.size = d.size ∧ Aside (SWK enc k w0 blk off dj wr) ∧ Hid (dj.toList = Pr ++ (S.take p ++ x :: (S.drop p ++ (X.drop (q + 1) ++ T)))) ∧ Hid (∀ y ∈ S.drop p, key x < key y)) (fun sj _ => (intOf sj).toNat - a)
      case atStart => exact ⟨q, dk, by rw [HIQ.out], Nat.le_refl _, hds, S1, HST, (by show ∀ y ∈ S.drop q, _; rw [List.drop_of_length_le (by have := HSL.out; omega)]; intro y hy; simp at hy)⟩
      case round =>
        obtain ⟨p, dj, rfl, hpq, hdj, S2, HD, HK⟩ := hrel
        clear S1
        have HOUT := Lib.hid (fun (hA : ∀ y ∈ S.take p, key y ≤ key x) => show Hid (dj.toList = Pr ++ ((S.take p ++ x :: S.drop p) ++ (X.drop (q + 1) ++ T)) ∧ (S.take p ++ x :: S.drop p).Perm (X.take (q + 1)) ∧ Ris key Rl (S.take p ++ x :: S.drop p)) from by
          show _ ∧ _ ∧ _
          refine ⟨by rw [HD.out]; simp only [List.append_assoc, List.cons_append], HPM.out _ ?_, ris_right ((List.take_append_drop p S).symm ▸ HRS.out) hA HK.out (fun y hy => HTG.out y (by rwa [List.take_append_drop] at hy))⟩
          have := List.perm_middle (a := x) (l₁ := S.take p) (l₂ := S.drop p)
          rwa [List.take_append_drop] at this)
        by_cases hp0 : p = 0
        · obtain ⟨c, hc⟩ : ∃ c, a + p = c := ⟨_, rfl⟩
          have HO := HOUT.out (fun y hy => by rw [hp0] at hy; simp at hy)
          have hng : decide ((c : Int) > (a : Int)) = false := decide_eq_false (by omega)
          have hng2 : ¬ (a : Int) < (c : Int) := by omega
          have hcc : c ≤ b := by have := HIQ.out; omega
          have hng3 : ¬ a < c := by omega
          have hng4 : decide (a < c) = false := decide_eq_false hng3
          rw [hc]
          clear HOUT HD HK hc hp0
          go_wp2_with fail
          go_big_region_o
          have S3 : Aside (SWK enc k w0 blk off dj wr.drew) := S2.out.drew
          clear S2
          generalize wr.drew = w2 at S3 ⊢
          go_wp2
          go_roundw
          case rel =>
            first
            | exact ⟨q + 1, _, dj, by rw [HI1.out], by omega, by have := HIQ.out; omega, hdj, S3, HO⟩
            | ((repeat apply Exists.intro); exact ⟨⟨q + 1, _, dj, by rw [HI1.out], by omega, by have := HIQ.out; omega, hdj, S3, HO⟩, rfl⟩)
          case measure => simp [intOf]; omega
        · obtain ⟨p', rfl⟩ : ∃ u, p = u + 1 := ⟨p - 1, by omega⟩
          obtain ⟨c, hc⟩ : ∃ c, a + p' = c := ⟨_, rfl⟩
          have HPC := Lib.hid hc
          have hpc : a + (p' + 1) = c + 1 := by omega
          rw [hpc]
          have bc : a ≤ c := by omega
          have bc2 : c + 1 ≤ i := by have := HIQ.out; omega
          have hgt : ((c + 1 : Nat) : Int) > (a : Int) := by omega
          have hgt2 : (c : Int) + 1 > (a : Int) := by omega
          have hgt3 : (a : Int) < (c : Int) + 1 := by omega
          obtain ⟨y0, hy0⟩ : ∃ y, S[p']? = some y := ⟨S[p']'(by have := HSL.out; omega), List.getElem?_eq_getElem _⟩
          have HDY := Lib.hid (drop_cons_of hy0)
          have HTY := Lib.hid (take_snoc_of hy0)
          have HY0 := Lib.hid hy0
          clear hy0
          have HY := Lib.hid (show dj[c]! = y0 from by
            have e := arr_get dj (Pr ++ S.take p') (x :: (S.drop (p' + 1) ++ (X.drop (q + 1) ++ T))) y0 (by rw [HD.out, HTY.out]; simp only [List.append_assoc, List.cons_append, List.nil_append])
            rw [List.length_append, List.length_take, HP.out, Nat.min_eq_left (by have := HSL.out; omega), HPC.out] at e
            exact e)
          have HX := Lib.hid (show dj[c + 1]! = x from by
            have e := arr_get dj (Pr ++ S.take (p' + 1)) (S.drop (p' + 1) ++ (X.drop (q + 1) ++ T)) x (by rw [HD.out]; simp only [List.append_assoc])
            rw [List.length_append, List.length_take, HP.out, Nat.min_eq_left (by have := HSL.out; omega), show a + (p' + 1) = c + 1 by have := HPC.out; omega] at e
            exact e)
          clear hpc hc
          by_cases hv : cf dj[c + 1]! dj[c]! < 0
          · have HV := Lib.hid hv
            clear hv HOUT
            go_wp2_with fail
            have ea44 : ((c : Int) + 1).toNat = c + 1 := by omega
            have pa44 : (0 : Int) ≤ (c : Int) + 1 := by omega
            have ba44 : (c : Int) + 1 < (d.size : Int) := by omega
            have ra44 : IntKind.i64.wrap ((c : Int) + 1) = (c : Int) + 1 := by rw [IntKind.wrap_i64]; omega
            have ec44 : ((c : Int)).toNat = c := by omega
            have pc44 : (0 : Int) ≤ (c : Int) := by omega
            have bc44 : (c : Int) < (d.size : Int) := by omega
            have rc44 : IntKind.i64.wrap ((c : Int)) = (c : Int) := by rw [IntKind.wrap_i64]; omega
            obtain ⟨x44, hx44⟩ : ∃ x, x = dj[c + 1]! := ⟨_, rfl⟩
            obtain ⟨y44, hy44⟩ : ∃ x, x = dj[c]! := ⟨_, rfl⟩
            have l44a := S2.out.ld R (by omega) P (c + 1) (by omega)
            have l44b := S2.out.ld R (by omega) P (c) (by omega)
            rw [← hx44] at l44a
            rw [← hy44] at l44b
            have hc44 := S2.out.cmp HC.out (by omega) x44 y44
            have hv44 : cf x44 y44 < 0 := by rw [hx44, hy44]; exact (by have := HV.out; omega)
            have hd44 : decide (cf x44 y44 < 0) = true := decide_eq_true hv44
            clear hx44 hy44
            go_wp2_with fail
            go_quiet_grown (first | (go_at_fn g; refine Calls.grown_of (hc44 _ _)))
            have S3 : Aside (SWK enc k w0 blk off dj (grow (wr.drewN nq) osq)) := S2.out.grown nq osq
            clear l44a l44b hc44 S2
            generalize grow (wr.drewN nq) osq = w2 at S3 ⊢
            clear nq osq hv44
            go_wp2_with fail
            go_wp2_with fail
            have ea45 : ((c : Int) + 1).toNat = c + 1 := by omega
            have pa45 : (0 : Int) ≤ (c : Int) + 1 := by omega
            have ba45 : (c : Int) + 1 < (d.size : Int) := by omega
            have ra45 : IntKind.i64.wrap ((c : Int) + 1) = (c : Int) + 1 := by rw [IntKind.wrap_i64]; omega
            have ec45 : ((c : Int)).toNat = c := by omega
            have pc45 : (0 : Int) ≤ (c : Int) := by omega
            have bc45 : (c : Int) < (d.size : Int) := by omega
            have rc45 : IntKind.i64.wrap ((c : Int)) = (c : Int) := by rw [IntKind.wrap_i64]; omega
            have S4 : Aside (SWK enc k w0 blk off (swp dj (c + 1) (c)) ((w2.drew.setCells blk (off + (c + 1) * k) (enc dj[c]!)).setCells blk (off + (c) * k) (enc dj[c + 1]!))) := S3.out.swapped R (c + 1) (c) (by omega) (by omega)
            have l45a := S3.out.ld1 R (by omega) P (c + 1) (by omega)
            have l45b := S3.out.ld1 R (by omega) P (c) (by omega)
            have s45a := S3.out.st1 R (by omega) P (c + 1) (by omega) dj[c]!
            have s45b := S3.out.st2 R (by omega) P (c + 1) (c) (by omega) (by omega) dj[c]! dj[c + 1]!
            have n45a : (enc dj[c + 1]!).length = k := R.hk _
            have n45b : (enc dj[c]!).length = k := R.hk _
            generalize enc dj[c + 1]! = cI45 at S4 l45a s45b n45a
            generalize enc dj[c]! = cJ45 at S4 l45b s45a s45b n45b
            clear S3
            go_wp2_with fail
            go_big_region_o
            clear l45a l45b s45a s45b
            generalize (w2.drew.setCells blk (off + (c + 1) * k) cJ45).setCells blk (off + (c) * k) cI45 = w3 at S4 ⊢
            have HD2 := Lib.hid (show (swp dj (c + 1) c).toList = Pr ++ (S.take p' ++ x :: (S.drop p' ++ (X.drop (q + 1) ++ T))) by
              have e := shift_left dj Pr (S.take p') y0 x (S.drop (p' + 1) ++ (X.drop (q + 1) ++ T)) (by rw [HD.out, HTY.out]; simp only [List.append_assoc, List.cons_append, List.nil_append])
              rw [List.length_take, Nat.min_eq_left (by have := HSL.out; omega), HP.out, HPC.out] at e
              rw [e, HDY.out, List.cons_append])
            have HK2 := Lib.hid (show ∀ y ∈ S.drop p', key x < key y from fun y hy => by
              rw [HDY.out] at hy
              rcases List.mem_cons.1 hy with rfl | hy
              · have e1 := (HCF.out _ _).1 HV.out
                rw [HX.out, HY.out] at e1
                exact e1
              · exact HK.out y hy)
            have HE := Lib.hid (show (c : Int) = ((a + p' : Nat) : Int) by have := HPC.out; omega)
            clear HV HY HX HK HD
            go_wp2
            go_roundw
            case rel =>
              first
              | exact ⟨p', _, by rw [HE.out], by omega, by rw [size_swp]; exact hdj, S4, HD2, HK2⟩
              | ((repeat apply Exists.intro); refine ⟨⟨p', _, ?_, by omega, by rw [size_swp]; exact hdj, S4, HD2, HK2⟩, rfl⟩; rw [HE.out])
            case measure => simp [intOf]; have := HPC.out; omega
          · have HV := Lib.hid hv
            have HO := HOUT.out (fun y hy => by
              have e1 : ¬ key dj[c + 1]! < key dj[c]! := fun e => hv ((HCF.out _ _).2 e)
              rw [HX.out, HY.out] at e1
              obtain ⟨t, h1, h2, rfl⟩ := mem_take_at hy
              have e2 := ris_key HRS.out (show t ≤ p' by omega) (List.getElem?_eq_getElem h2) HY0.out
              omega)
            clear hv HOUT
            go_wp2_with fail
            have ea44 : ((c : Int) + 1).toNat = c + 1 := by omega
            have pa44 : (0 : Int) ≤ (c : Int) + 1 := by omega
            have ba44 : (c : Int) + 1 < (d.size : Int) := by omega
            have ra44 : IntKind.i64.wrap ((c : Int) + 1) = (c : Int) + 1 := by rw [IntKind.wrap_i64]; omega
            have ec44 : ((c : Int)).toNat = c := by omega
            have pc44 : (0 : Int) ≤ (c : Int) := by omega
            have bc44 : (c : Int) < (d.size : Int) := by omega
            have rc44 : IntKind.i64.wrap ((c : Int)) = (c : Int) := by rw [IntKind.wrap_i64]; omega
            obtain ⟨x44, hx44⟩ : ∃ x, x = dj[c + 1]! := ⟨_, rfl⟩
            obtain ⟨y44, hy44⟩ : ∃ x, x = dj[c]! := ⟨_, rfl⟩
            have l44a := S2.out.ld R (by omega) P (c + 1) (by omega)
            have l44b := S2.out.ld R (by omega) P (c) (by omega)
            rw [← hx44] at l44a
            rw [← hy44] at l44b
            have hc44 := S2.out.cmp HC.out (by omega) x44 y44
            have hv44 : ¬ cf x44 y44 < 0 := by rw [hx44, hy44]; exact (by have := HV.out; omega)
            have hd44 : decide (cf x44 y44 < 0) = false := decide_eq_false hv44
            clear hx44 hy44
            go_wp2_with fail
            go_quiet_grown (first | (go_at_fn g; refine Calls.grown_of (hc44 _ _)))
            have S3 : Aside (SWK enc k w0 blk off dj (grow (wr.drewN nq) osq)) := S2.out.grown nq osq
            clear l44a l44b hc44 S2
            generalize grow (wr.drewN nq) osq = w2 at S3 ⊢
            clear nq osq hv44
            clear HV HY HX HK HD
            go_wp2
            go_roundw
            case rel =>
              first
              | exact ⟨q + 1, _, dj, by rw [HI1.out], by omega, by have := HIQ.out; omega, hdj, S3, HO⟩
              | ((repeat apply Exists.intro); exact ⟨⟨q + 1, _, dj, by rw [HI1.out], by omega, by have := HIQ.out; omega, hdj, S3, HO⟩, rfl⟩)
            case measure => simp [intOf]; omega
    · have hnlt : ¬ (i : Int) < (b : Int) := by omega
      have H9 := Lib.hid (show dk.toList = Pr ++ (S ++ T) ∧ S.Perm X by
        have h1 := HD.out
        have h2 := HB.out
        have h3 := HIQ.out
        rw [List.drop_of_length_le (by omega), List.take_of_length_le (by omega)] at h1
        exact ⟨by simpa using h1.1, h1.2.1⟩)
      go_wp2
      go_end0
      exact ⟨rfl, dk, S, hds, H9.out.1, H9.out.2, HD.out.2.2, S1.out⟩
theorem sym_any {P : Program} {k : Nat} (B : Bo P k) (enc : α → List Value) (blk off cap : Nat) (d0 : Array α) (w0 : World) (R : RowK enc k w0 blk off d0) (key : α → Int) (Rl : α → α → Prop) (cf : α → α → Int) (hcf : ∀ x y, cf x y < 0 ↔ key x < key y) (g : Nat) (cb : Array Value) (eg : ∀ args w, (callFunc g args).run P w = .ok (.enter g args) w) (hcmp : CmpLays P g cb enc k cf blk off d0.size w0) (hsz : d0.size < 1000000000) (N : Nat) : ∀ (d : Array α) (w : World) (hs : d0.size = d.size) (S : SWK enc k w0 blk off d w) (Pr L Q T : List α) (h : d.toList = Pr ++ (L ++ (Q ++ T))), L.length + Q.length < N → 0 < L.length → 0 < Q.length → Ris key Rl L → Ris key Rl Q → (∀ x ∈ L, ∀ y ∈ Q, Rl x y) → ∀ (sz : Nat) (az mz bz : Int), sz = d.size → az = (Pr.length : Int) → mz = ((Pr.length + L.length : Nat) : Int) → bz = ((Pr.length + L.length + Q.length : Nat) : Int) → Calls P 84 #[.slice (some ⟨blk, off, none⟩) sz cap, .int .i64 az, .int .i64 mz, .int .i64 bz, .func (.func g) #[] cb] w (SymQ key Rl enc k w0 blk off d Pr T (L ++ Q)) := by
  induction N with
  | zero => intro d w hs S Pr L Q T h hN; omega
  | succ N ih =>
    intro d w hs S Pr L Q T h hN hL hQ rL rQ tg sz az mz bz e1 e2 e3 e4
    subst e1 e2 e3 e4
    by_cases h1 : L.length = 1
    · obtain ⟨x, rfl⟩ := List.length_eq_one_iff.1 h1
      exact symA_any B enc blk off cap d0 w0 R key Rl cf hcf g cb eg hcmp d w hs S (by omega) Pr Q T x (by rw [h]; rfl) rQ (fun y hy => tg x List.mem_cons_self y hy) Pr.length _ _ rfl rfl rfl
    · by_cases h2 : Q.length = 1
      · obtain ⟨y, rfl⟩ := List.length_eq_one_iff.1 h2
        exact symB_any B enc blk off cap d0 w0 R key Rl cf hcf g cb eg hcmp d w hs S (by omega) Pr L T y (by rw [h]; rfl) rL (by omega) (fun x hx => tg x hx y List.mem_cons_self) Pr.length _ _ rfl rfl rfl
      · exact symC_any B enc blk off cap d0 w0 R key Rl cf hcf g cb eg hcmp (L.length + Q.length) (fun d w hs S Pr L' Q' T h hN' => ih d w hs S Pr L' Q' T h (by omega)) d w hs S (by omega) Pr L Q T h rL rQ (by omega) (by omega) rfl tg Pr.length _ _ rfl rfl rfl
end
end Go.Proofs.Ythcjbljkokflgaa
namespace Go.Proofs.Ythcjbljkokflgaa
open Go.RowKit
open Go.Lib hiding intOf
open Go.Sort Go.Proofs
set_option linter.unusedVariables false
set_option linter.unusedSimpArgs false
set_option maxRecDepth 1000000
section
variable {α : Type}
/-- The i-th chunk of s. -/
def ck (s : Nat) (D : List α) (i : Nat) : List α := (D.drop (i * s)).take s
/-- It is sorted, and of what it was. -/
def Ckd (key : α → Int) (Rl : α → α → Prop) (s : Nat) (D l : List α) (i : Nat) : Prop := (ck s D i).Perm (ck s l i) ∧ Ris key Rl (ck s D i)
theorem ck_left {A : List α} {s i : Nat} (h : i * s + s ≤ A.length) (B : List α) : ck s (A ++ B) i = ck s A i := by
  unfold ck
  rw [List.drop_append_of_le_length (by omega), List.take_append_of_le_length (by rw [List.length_drop]; omega)]
theorem drop_right {A A' T : List α} (h : A.length = A'.length) {n : Nat} (hn : A.length ≤ n) : (A ++ T).drop n = (A' ++ T).drop n := by
  have h1 : A.drop n = [] := List.drop_of_length_le hn
  have h2 : A'.drop n = [] := List.drop_of_length_le (by omega)
  rw [List.drop_append, List.drop_append, h1, h2, h]
theorem ck_right {A A' T : List α} (h : A.length = A'.length) {s i : Nat} (hi : A.length ≤ i * s) : ck s (A ++ T) i = ck s (A' ++ T) i := by
  unfold ck; rw [drop_right h hi]
theorem ck_mid {A M T : List α} {s i : Nat} (h : A.length = i * s) (hM : M.length = s) : ck s (A ++ (M ++ T)) i = M := by
  unfold ck
  rw [List.drop_append_of_le_length (by omega), List.drop_of_length_le (by omega), List.nil_append, List.take_append_of_le_length (by omega), List.take_of_length_le (by omega)]
theorem ck_end {A M : List α} {s i : Nat} (h : A.length = i * s) (hM : M.length ≤ s) : ck s (A ++ (M ++ [])) i = M := by
  unfold ck
  rw [List.drop_append_of_le_length (by omega), List.drop_of_length_le (by omega), List.nil_append, List.append_nil, List.take_of_length_le (by omega)]
theorem ck_nil {D : List α} {s i : Nat} (h : D.length ≤ i * s) : ck s D i = [] := by
  unfold ck; rw [List.drop_of_length_le h, List.take_nil]
theorem ck_two (s j : Nat) (l : List α) : ck (2 * s) l j = ck s l (2 * j) ++ ck s l (2 * j + 1) := by
  have e1 : j * (2 * s) = 2 * j * s := by rw [Nat.mul_comm 2 j, Nat.mul_assoc]
  have e2 : (2 * j + 1) * s = 2 * j * s + s := by rw [Nat.add_mul, Nat.one_mul]
  unfold ck
  rw [e1, e2, show 2 * s = s + s by omega, List.take_add, List.drop_drop]
theorem ck_split (s i : Nat) (D : List α) : D = D.take (i * s) ++ (ck s D i ++ D.drop (i * s + s)) := by
  unfold ck
  rw [← List.drop_drop, List.take_append_drop, List.take_append_drop]
theorem ck_len (s i : Nat) (D : List α) : (ck s D i).length = min s (D.length - i * s) := by
  unfold ck; rw [List.length_take, List.length_drop]
theorem ck_tags {Rl : α → α → Prop} {l : List α} (h : l.Pairwise Rl) {s i i' : Nat} (hi : i < i') : ∀ x ∈ ck s l i, ∀ y ∈ ck s l i', Rl x y := by
  intro x hx y hy
  unfold ck at hx hy
  obtain ⟨a, ha, rfl⟩ := List.getElem_of_mem hx
  obtain ⟨b, hb, rfl⟩ := List.getElem_of_mem hy
  rw [List.length_take, List.length_drop] at ha hb
  rw [List.getElem_take, List.getElem_drop, List.getElem_take, List.getElem_drop]
  have h1 : (i + 1) * s ≤ i' * s := Nat.mul_le_mul_right s hi
  rw [Nat.add_mul, Nat.one_mul] at h1
  exact List.pairwise_iff_getElem.1 h _ _ _ _ (by omega)
theorem ck_pair {Rl : α → α → Prop} {l : List α} (h : l.Pairwise Rl) (s i : Nat) : (ck s l i).Pairwise Rl := (h.sublist (List.drop_sublist _ _)).sublist (List.take_sublist _ _)
end
section
variable {α : Type} {key : α → Int} {Rl : α → α → Prop} {l : List α}
/-- A pass: one chunk more. -/
theorem pass_left {s s' j : Nat} {D D' A M M' T : List α} (hD : D = A ++ (M ++ T)) (hD' : D' = A ++ (M' ++ T)) (hA : j * s ≤ A.length) (h : ∀ i, i < j → Ckd key Rl s D l i) : ∀ i, i < j → Ckd key Rl s D' l i := by
  intro i hi
  have h1 : (i + 1) * s ≤ j * s := Nat.mul_le_mul_right s hi
  rw [Nat.add_mul, Nat.one_mul] at h1
  have e := h i hi
  unfold Ckd at e ⊢
  rw [hD, ck_left (by omega)] at e
  rw [hD', ck_left (by omega)]
  exact e
theorem pass_right {s j : Nat} {D D' A M M' T : List α} (hD : D = A ++ (M ++ T)) (hD' : D' = A ++ (M' ++ T)) (hM : M'.length = M.length) (hA : A.length + M.length ≤ j * s) (h : ∀ i, j ≤ i → Ckd key Rl s D l i) : ∀ i, j ≤ i → Ckd key Rl s D' l i := by
  intro i hi
  have h1 : j * s ≤ i * s := Nat.mul_le_mul_right s hi
  have e := h i hi
  unfold Ckd at e ⊢
  rw [hD, ← List.append_assoc, ck_right (A' := A ++ M') (by rw [List.length_append, List.length_append]; omega) (by rw [List.length_append]; omega)] at e
  rw [hD', ← List.append_assoc]
  exact e
end
section
variable {α : Type} [Inhabited α]
set_option maxHeartbeats 16000000 in
theorem stable_any {P : Program} {k : Nat} (B : Bo P k) (enc : α → List Value) (blk off cap : Nat) (d0 : Array α) (w0 : World) (R : RowK enc k w0 blk off d0) (key : α → Int) (Rl : α → α → Prop) (cf : α → α → Int) (hcf : ∀ x y, cf x y < 0 ↔ key x < key y) (g : Nat) (cb : Array Value) (eg : ∀ args w, (callFunc g args).run P w = .ok (.enter g args) w) (hcmp : CmpLays P g cb enc k cf blk off d0.size w0) (hsz : d0.size < 100000000) (d : Array α) (w : World) (hs : d0.size = d.size) (S0 : SWK enc k w0 blk off d w) (l : List α) (h : d.toList = l) (hX : l.Pairwise Rl) (n : Nat) (hn : d.size = n) :
    Calls P 70 #[.slice (some ⟨blk, off, none⟩) n cap, .int .i64 n, .func (.func g) #[] cb] w (SymQ key Rl enc k w0 blk off d [] [] l) := by
  have hll : l.length = n := by rw [← h, Array.length_toList, hn]
  have HLL := Lib.hid hll
  have HIN := Lib.hid (fun (d : Array α) (w : World) (hs : d.size = n) (S : SWK enc k w0 blk off d w) (Pr X T : List α) (h : d.toList = Pr ++ (X ++ T)) (hx : X.Pairwise Rl) (az bz : Int) (ha : az = (Pr.length : Int)) (hb : bz = ((Pr.length + X.length : Nat) : Int)) => show Calls P 83 #[.slice (some ⟨blk, off, none⟩) n cap, .int .i64 az, .int .i64 bz, .func (.func g) #[] cb] w (SymQ key Rl enc k w0 blk off d Pr T X) from by
    subst ha hb
    have := ins_any B enc blk off cap d0 w0 R key Rl cf hcf g cb eg hcmp d w (by omega) S (by omega) Pr X T h hx Pr.length _ rfl rfl
    rwa [hs] at this)
  have HSM := Lib.hid (fun (d : Array α) (w : World) (hs : d.size = n) (S : SWK enc k w0 blk off d w) (Pr L Q T : List α) (h : d.toList = Pr ++ (L ++ (Q ++ T))) (h1 : 0 < L.length) (h2 : 0 < Q.length) (h3 : Ris key Rl L) (h4 : Ris key Rl Q) (h5 : ∀ x ∈ L, ∀ y ∈ Q, Rl x y) (az mz bz : Int) => sym_any B enc blk off cap d0 w0 R key Rl cf hcf g cb eg hcmp (by omega) (L.length + Q.length + 1) d w (by omega) S Pr L Q T h (by omega) h1 h2 h3 h4 h5 n az mz bz hs.symm)
  have HTG := Lib.hid (fun (s i i' : Nat) (hi : i < i') => ck_tags hX (s := s) hi)
  have HPA := Lib.hid (fun (s i : Nat) => ck_pair hX s i)
  have HDS := Lib.hid hn
  have HHL := Lib.hid h
  have HS0 : Aside _ := S0
  have hnb : n < 100000000 := by omega
  have eIS := B.e_is
  have eSM := B.e_sm
  clear S0 h hX hcmp hcf hll hn
  have mixed := B.mixed; have t0 := B.t0; have a0 := B.a0; have z0 := B.z0; have v0 := B.v0; have t1 := B.t1; have a1 := B.a1; have z1 := B.z1; have v1 := B.v1; have t2 := B.t2; have a2 := B.a2; have z2 := B.z2; have v2 := B.v2; have t3 := B.t3; have a3 := B.a3; have z3 := B.z3; have v3 := B.v3; have t4 := B.t4; have a4 := B.a4; have z4 := B.z4; have v4 := B.v4; have t5 := B.t5; have a5 := B.a5; have z5 := B.z5; have v5 := B.v5; have aE := B.aE; have zE := B.zE
  go_enter B.f_st, Try.ntmps70
  go_wp2
  go_loopw [7, 8] (fun sa sb wr => ∃ (j : Nat) (dk : Array α), sa = .int .i64 ((j * 20 : Nat) : Int) ∧ sb = .int .i64 ((j * 20 + 20 : Nat) : Int) ∧ j * 20 ≤ n ∧ dk.size = n ∧ Aside (SWK enc k w0 blk off dk wr) ∧ Hid ((∀ i, i < j → Ckd key Rl 20 dk.toList l i) ∧ dk.toList.drop (j * 20) = l.drop (j * 20))) (fun sa sb _ => n + 20 - (intOf sb).toNat)
  case atStart => exact ⟨0, d, by go_num, by go_num, by omega, HDS.out, HS0, (by show _ ∧ _; exact ⟨fun i hi => absurd hi (by omega), by rw [HHL.out]⟩)⟩
  case round =>
    obtain ⟨j, dk, rfl, rfl, hj, hds, S1, HD⟩ := hrel
    clear HS0
    obtain ⟨a, ha⟩ : ∃ a, j * 20 = a := ⟨_, rfl⟩
    have HA := Lib.hid ha
    have hb2 : j * 20 + 20 = a + 20 := by omega
    rw [hb2, ha]
    rw [ha] at hj
    have hdl : dk.toList.length = n := by rw [Array.length_toList, hds]
    have hsp := ck_split 20 j dk.toList
    have hck : ck 20 dk.toList j = ck 20 l j := by unfold ck; rw [HD.out.2]
    have hpl : (dk.toList.take (j * 20)).length = a := by rw [List.length_take]; omega
    have HSP := Lib.hid hsp
    have HCK := Lib.hid hck
    have HPL := Lib.hid hpl
    have HDL := Lib.hid hdl
    clear ha hb2 hsp hck hpl hdl
    by_cases hlt : a + 20 ≤ n
    · have hltz : ((a + 20 : Nat) : Int) ≤ (n : Int) := by omega
      have hltz2 : (a : Int) + 20 ≤ (n : Int) := by omega
      have hcl : (ck 20 dk.toList j).length = 20 := by rw [ck_len]; have := HDL.out; have := HA.out; omega
      have HCL := Lib.hid hcl
      clear hcl
      go_wp2_with fail
      refine (HIN.out dk _ hds S1.out _ _ _ HSP.out (by rw [HCK.out]; exact HPA.out 20 j) _ _ (by have := HPL.out; omega) (by have := HPL.out; have := HCL.out; omega)).mono ?_
      rintro _ w2 ⟨rfl, d', M, f1, f2, p1, s1, f3⟩
      have S2 : Aside _ := f3
      have HN := Lib.hid (show (∀ i, i < j + 1 → Ckd key Rl 20 d'.toList l i) ∧ d'.toList.drop ((j + 1) * 20) = l.drop ((j + 1) * 20) from by
        have q1 := pass_left (s' := 20) HSP.out f2 (by have := HPL.out; have := HA.out; omega) HD.out.1
        have ml : M.length = 20 := by rw [p1.length_eq]; exact HCL.out
        refine ⟨fun i hi => ?_, ?_⟩
        · by_cases hij : i < j
          · exact q1 i hij
          · obtain rfl : i = j := by omega
            unfold Ckd
            rw [f2, ck_mid (by have := HPL.out; have := HA.out; omega) ml]
            exact ⟨p1.trans (by rw [HCK.out]), s1⟩
        · have e1 : dk.toList.drop ((j + 1) * 20) = l.drop ((j + 1) * 20) := by
            rw [show (j + 1) * 20 = j * 20 + 20 by omega, ← List.drop_drop, ← List.drop_drop, HD.out.2]
          rw [← e1]
          have e2 := HSP.out
          rw [f2, ← List.append_assoc]
          conv => rhs; rw [e2, ← List.append_assoc]
          exact drop_right (by rw [List.length_append, List.length_append, p1.length_eq]) (by rw [List.length_append, ml]; have := HPL.out; have := HA.out; omega))
      have HZ := Lib.hid (show d'.size = n from f1.trans hds)
      have HE1 := Lib.hid (show (a : Int) + 20 = (((j + 1) * 20 : Nat) : Int) by have := HA.out; omega)
      have HE2 := Lib.hid (show (a : Int) + 20 + 20 = (((j + 1) * 20 + 20 : Nat) : Int) by have := HA.out; omega)
      clear f1 f2 f3 p1 s1 S1
      go_wp2
      go_roundw
      case rel =>
        first
        | exact ⟨j + 1, d', by rw [HE1.out], by rw [HE2.out], by have := HA.out; omega, HZ.out, S2, HN⟩
        | ((repeat apply Exists.intro); refine ⟨⟨j + 1, d', ?_, ?_, by have := HA.out; omega, HZ.out, S2, HN⟩, rfl⟩ <;> first | rw [HE1.out] | rw [HE2.out])
      case measure => simp [intOf]; omega
    · have hltz : ¬ ((a + 20 : Nat) : Int) ≤ (n : Int) := by omega
      have hltz2 : ¬ (a : Int) + 20 ≤ (n : Int) := by omega
      have hcl : (ck 20 dk.toList j).length = n - a := by rw [ck_len]; have := HDL.out; have := HA.out; omega
      have htl : dk.toList.drop (j * 20 + 20) = [] := List.drop_of_length_le (by have := HDL.out; have := HA.out; omega)
      have HCL := Lib.hid hcl
      have HTL := Lib.hid htl
      clear hcl htl
      go_wp2_with fail
      refine (HIN.out dk _ hds S1.out _ _ _ HSP.out (by rw [HCK.out]; exact HPA.out 20 j) _ _ (by have := HPL.out; omega) (by have := HPL.out; have := HCL.out; omega)).mono ?_
      rintro _ w2 ⟨rfl, d', M, f1, f2, p1, s1, f3⟩
      have S2 : Aside _ := f3
      have HN := Lib.hid (show ∀ i, Ckd key Rl 20 d'.toList l i from by
        have q1 := pass_left (s' := 20) HSP.out f2 (by have := HPL.out; have := HA.out; omega) HD.out.1
        have ml : M.length = n - a := by rw [p1.length_eq]; exact HCL.out
        intro i
        by_cases hij : i < j
        · exact q1 i hij
        · by_cases hij2 : i = j
          · subst hij2
            unfold Ckd
            rw [f2, HTL.out, ck_end (by have := HPL.out; have := HA.out; omega) (by omega)]
            exact ⟨p1.trans (by rw [HCK.out]), s1⟩
          · have hm : (j + 1) * 20 ≤ i * 20 := Nat.mul_le_mul_right 20 (by omega)
            unfold Ckd
            rw [ck_nil (by rw [Array.length_toList, f1, hds]; have := HA.out; omega), ck_nil (by have := HLL.out; have := HA.out; omega)]
            exact ⟨List.Perm.refl _, List.Pairwise.nil⟩)
      have HZ := Lib.hid (show d'.size = n from f1.trans hds)
      clear f1 f2 f3 p1 s1 S1 HD HSP HCK HPL HDL HCL HTL hds
      go_wp2
      go_loopw [6] (fun ss wr => ∃ (s : Nat) (dk : Array α), ss = .int .i64 (s : Int) ∧ 20 ≤ s ∧ s ≤ 2 * n + 20 ∧ dk.size = n ∧ Aside (SWK enc k w0 blk off dk wr) ∧ Hid (∀ i, Ckd key Rl s dk.toList l i)) (fun ss _ => 2 * n + 20 - (intOf ss).toNat)
      case atStart => exact ⟨20, d', by go_num, by omega, by omega, HZ.out, S2, HN⟩
      case round =>
        obtain ⟨s, dk, rfl, hs20, hsn, hds, S1, HD⟩ := hrel
        clear S2 HZ HN
        by_cases hlt2 : s < n
        · have hl2z : (s : Int) < (n : Int) := by omega
          go_wp2
          go_loopw [7, 8] (fun sa sb wr => ∃ (j a : Nat) (dk : Array α), sa = .int .i64 (a : Int) ∧ sb = .int .i64 ((a + 2 * s : Nat) : Int) ∧ Hid (j * (2 * s) = a) ∧ a ≤ n ∧ dk.size = n ∧ Aside (SWK enc k w0 blk off dk wr) ∧ Hid ((∀ i, i < j → Ckd key Rl (2 * s) dk.toList l i) ∧ (∀ i, 2 * j ≤ i → Ckd key Rl s dk.toList l i))) (fun sa sb _ => n + 2 * s - (intOf sb).toNat)
          case atStart => exact ⟨0, 0, dk, by go_num, by go_num, (by show _ = _; simp), by omega, hds, S1, (by show _ ∧ _; exact ⟨fun i hi => absurd hi (by omega), fun i _ => HD.out i⟩)⟩
          case round =>
            obtain ⟨j, a, dj, rfl, rfl, HJ, haj, hdj, S2, HC2⟩ := hrel
            clear S1 HD hds
            have HSJ := Lib.hid (show 2 * j * s = a ∧ (2 * j + 1) * s = a + s ∧ (2 * j + 2) * s = a + 2 * s ∧ (j + 1) * (2 * s) = a + 2 * s by
              have := HJ.out
              have e : 2 * j * s = a := by rw [← this, Nat.mul_comm 2 j, Nat.mul_assoc]
              refine ⟨e, by rw [Nat.add_mul, e, Nat.one_mul], by rw [Nat.add_mul, e], by rw [Nat.add_mul, this, Nat.one_mul]⟩)
            have HDL := Lib.hid (show dj.toList.length = n by rw [Array.length_toList, hdj])
            have HSP := Lib.hid (show dj.toList = dj.toList.take a ++ (ck s dj.toList (2 * j) ++ (ck s dj.toList (2 * j + 1) ++ dj.toList.drop (a + 2 * s))) by
              have h1 := ck_split s (2 * j) dj.toList
              have h2 : dj.toList.drop (2 * j * s + s) = ck s dj.toList (2 * j + 1) ++ dj.toList.drop (a + 2 * s) := by
                unfold ck
                rw [HSJ.out.2.1, HSJ.out.1, show a + 2 * s = a + s + s by omega, ← List.drop_drop (l := dj.toList) (i := s) (j := a + s), List.take_append_drop]
              rw [h2, HSJ.out.1] at h1
              exact h1)
            have HPL := Lib.hid (show (dj.toList.take a).length = a by rw [List.length_take]; have := HDL.out; omega)
            have HSR := Lib.hid (show (ck s dj.toList (2 * j)).Perm (ck s l (2 * j)) ∧ Ris key Rl (ck s dj.toList (2 * j)) ∧ (ck s dj.toList (2 * j + 1)).Perm (ck s l (2 * j + 1)) ∧ Ris key Rl (ck s dj.toList (2 * j + 1)) from ⟨(HC2.out.2 _ (Nat.le_refl _)).1, (HC2.out.2 _ (Nat.le_refl _)).2, (HC2.out.2 _ (by omega)).1, (HC2.out.2 _ (by omega)).2⟩)
            have HT2 := Lib.hid (show ∀ x ∈ ck s dj.toList (2 * j), ∀ y ∈ ck s dj.toList (2 * j + 1), Rl x y from fun x hx y hy => HTG.out s (2 * j) (2 * j + 1) (by omega) x (HSR.out.1.mem_iff.1 hx) y (HSR.out.2.2.1.mem_iff.1 hy))
            have HL1 := Lib.hid (ck_len s (2 * j) dj.toList)
            have HL2 := Lib.hid (ck_len s (2 * j + 1) dj.toList)
            by_cases hlt3 : a + 2 * s ≤ n
            · have h3z : ((a + 2 * s : Nat) : Int) ≤ (n : Int) := by omega
              have h3y : (a : Int) + 2 * (s : Int) ≤ (n : Int) := by omega
              have HLA := Lib.hid (show (ck s dj.toList (2 * j)).length = s ∧ (ck s dj.toList (2 * j + 1)).length = s by
                have h1 := HL1.out; have h2 := HL2.out; have h3 := HSJ.out; have h4 := HDL.out
                rw [h3.1, h4] at h1; rw [h3.2.1, h4] at h2; omega)
              go_wp2_with fail
              refine (HSM.out dj _ hdj S2.out _ _ _ _ HSP.out (by have := HLA.out; omega) (by have := HLA.out; omega) HSR.out.2.1 HSR.out.2.2.2 HT2.out _ _ _ (by have := HPL.out; omega) (by have := HPL.out; have := HLA.out; omega) (by have := HPL.out; have := HLA.out; omega)).mono ?_
              rintro _ w3 ⟨rfl, d3, M, f1, f2, p1, s1, f3⟩
              have S3 : Aside _ := f3
              have HN := Lib.hid (show (∀ i, i < j + 1 → Ckd key Rl (2 * s) d3.toList l i) ∧ (∀ i, 2 * (j + 1) ≤ i → Ckd key Rl s d3.toList l i) from by
                have e0 : dj.toList = dj.toList.take a ++ ((ck s dj.toList (2 * j) ++ ck s dj.toList (2 * j + 1)) ++ dj.toList.drop (a + 2 * s)) := by rw [List.append_assoc]; exact HSP.out
                have ml : M.length = 2 * s := by rw [p1.length_eq, List.length_append]; have := HLA.out; omega
                have q1 := pass_left (s' := 2 * s) e0 f2 (by have := HPL.out; have := HJ.out; omega) HC2.out.1
                refine ⟨fun i hi => ?_, pass_right e0 f2 (by rw [p1.length_eq]) (by rw [show 2 * (j + 1) = 2 * j + 2 by omega, List.length_append]; have := HSJ.out; have := HPL.out; have := HLA.out; omega) (fun i hi => HC2.out.2 i (by omega))⟩
                by_cases hij : i < j
                · exact q1 i hij
                · obtain rfl : i = j := by omega
                  unfold Ckd
                  rw [f2, ck_mid (by have := HPL.out; have := HJ.out; omega) ml, ck_two]
                  exact ⟨p1.trans (HSR.out.1.append HSR.out.2.2.1), s1⟩)
              have HZ := Lib.hid (show d3.size = n from f1.trans hdj)
              have HJ2 := Lib.hid (show (j + 1) * (2 * s) = a + 2 * s from HSJ.out.2.2.2)
              have HE1 := Lib.hid (show (a : Int) + 2 * (s : Int) = ((a + 2 * s : Nat) : Int) by omega)
              have HE2 := Lib.hid (show (a : Int) + 2 * (s : Int) + 2 * (s : Int) = ((a + 2 * s + 2 * s : Nat) : Int) by omega)
              clear f1 f2 f3 p1 s1 S2
              go_wp2
              go_roundw
              case rel =>
                first
                | exact ⟨j + 1, a + 2 * s, d3, by rw [HE1.out], by rw [HE2.out], HJ2, hlt3, HZ.out, S3, HN⟩
                | ((repeat apply Exists.intro); refine ⟨⟨j + 1, a + 2 * s, d3, ?_, ?_, HJ2, hlt3, HZ.out, S3, HN⟩, rfl⟩ <;> first | rw [HE1.out] | rw [HE2.out])
              case measure => simp [intOf]; omega
            · have h3z : ¬ ((a + 2 * s : Nat) : Int) ≤ (n : Int) := by omega
              have h3y : ¬ (a : Int) + 2 * (s : Int) ≤ (n : Int) := by omega
              have HTL := Lib.hid (show dj.toList.drop (a + 2 * s) = [] from List.drop_of_length_le (by have := HDL.out; omega))
              have HE3 := Lib.hid (show (s : Int) * 2 = ((2 * s : Nat) : Int) by omega)
              by_cases hlt4 : a + s < n
              · have h4z : (a : Int) + (s : Int) < (n : Int) := by omega
                have HLA := Lib.hid (show (ck s dj.toList (2 * j)).length = s ∧ (ck s dj.toList (2 * j + 1)).length = n - (a + s) by
                  have h1 := HL1.out; have h2 := HL2.out; have h3 := HSJ.out; have h4 := HDL.out
                  rw [h3.1, h4] at h1; rw [h3.2.1, h4] at h2; omega)
                go_wp2_with fail
                refine (HSM.out dj _ hdj S2.out _ _ _ _ HSP.out (by have := HLA.out; omega) (by have := HLA.out; omega) HSR.out.2.1 HSR.out.2.2.2 HT2.out _ _ _ (by have := HPL.out; omega) (by have := HPL.out; have := HLA.out; omega) (by have := HPL.out; have := HLA.out; omega)).mono ?_
                rintro _ w3 ⟨rfl, d3, M, f1, f2, p1, s1, f3⟩
                have S3 : Aside _ := f3
                have HN := Lib.hid (show ∀ i, Ckd key Rl (2 * s) d3.toList l i from by
                  have e0 : dj.toList = dj.toList.take a ++ ((ck s dj.toList (2 * j) ++ ck s dj.toList (2 * j + 1)) ++ dj.toList.drop (a + 2 * s)) := by rw [List.append_assoc]; exact HSP.out
                  have ml : M.length ≤ 2 * s := by rw [p1.length_eq, List.length_append]; have := HLA.out; omega
                  have q1 := pass_left (s' := 2 * s) e0 f2 (by have := HPL.out; have := HJ.out; omega) HC2.out.1
                  intro i
                  by_cases hij : i < j
                  · exact q1 i hij
                  · by_cases hij2 : i = j
                    · subst hij2
                      unfold Ckd
                      rw [f2, HTL.out, ck_end (by have := HPL.out; have := HJ.out; omega) ml, ck_two]
                      exact ⟨p1.trans (HSR.out.1.append HSR.out.2.2.1), s1⟩
                    · have hm : (j + 1) * (2 * s) ≤ i * (2 * s) := Nat.mul_le_mul_right _ (by omega)
                      rw [HSJ.out.2.2.2] at hm
                      unfold Ckd
                      rw [ck_nil (by rw [Array.length_toList, f1, hdj]; omega), ck_nil (by have := HLL.out; omega)]
                      exact ⟨List.Perm.refl _, List.Pairwise.nil⟩)
                have HZ := Lib.hid (show d3.size = n from f1.trans hdj)
                clear f1 f2 f3 p1 s1 S2
                go_wp2
                go_roundw
                case rel =>
                  first
                  | exact ⟨2 * s, d3, by rw [HE3.out], by omega, by omega, HZ.out, S3, HN⟩
                  | ((repeat apply Exists.intro); refine ⟨⟨2 * s, d3, ?_, by omega, by omega, HZ.out, S3, HN⟩, rfl⟩; rw [HE3.out])
                case measure => simp [intOf]; omega
              · have h4z : ¬ (a : Int) + (s : Int) < (n : Int) := by omega
                have HN := Lib.hid (show ∀ i, Ckd key Rl (2 * s) dj.toList l i from by
                  intro i
                  by_cases hij : i < j
                  · exact HC2.out.1 i hij
                  · by_cases hij2 : i = j
                    · subst hij2
                      unfold Ckd
                      have z1 : ck s dj.toList (2 * i + 1) = [] := ck_nil (by rw [HSJ.out.2.1]; have := HDL.out; omega)
                      have z2 : ck s l (2 * i + 1) = [] := ck_nil (by rw [HSJ.out.2.1]; have := HLL.out; omega)
                      rw [ck_two, ck_two, z1, z2, List.append_nil, List.append_nil]
                      exact ⟨HSR.out.1, HSR.out.2.1⟩
                    · have hm : (j + 1) * (2 * s) ≤ i * (2 * s) := Nat.mul_le_mul_right _ (by omega)
                      rw [HSJ.out.2.2.2] at hm
                      unfold Ckd
                      rw [ck_nil (by have := HDL.out; omega), ck_nil (by have := HLL.out; omega)]
                      exact ⟨List.Perm.refl _, List.Pairwise.nil⟩)
                go_wp2
                go_roundw
                case rel =>
                  first
                  | exact ⟨2 * s, dj, by rw [HE3.out], by omega, by omega, hdj, S2, HN⟩
                  | ((repeat apply Exists.intro); refine ⟨⟨2 * s, dj, ?_, by omega, by omega, hdj, S2, HN⟩, rfl⟩; rw [HE3.out])
                case measure => simp [intOf]; omega
        · have hl2z : ¬ (s : Int) < (n : Int) := by omega
          have H9 := Lib.hid (show dk.toList.Perm l ∧ Ris key Rl dk.toList from by
            have h1 := HD.out 0
            unfold Ckd ck at h1
            rw [Nat.zero_mul, List.drop_zero, List.drop_zero, List.take_of_length_le (by rw [Array.length_toList]; omega), List.take_of_length_le (by have := HLL.out; omega)] at h1
            exact h1)
          have HZ := Lib.hid (show dk.size = d.size by have := HDS.out; omega)
          go_wp2
          go_end0
          exact ⟨rfl, dk, dk.toList, HZ.out, (by simp), H9.out.1, H9.out.2, S1.out⟩
end
end Go.Proofs.Ythcjbljkokflgaa
