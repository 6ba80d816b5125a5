/- Texts of one proof, joined. -/
import Derived.Test.YtphijnkiiokieaaGreatDoorZaq
set_option linter.unusedVariables false
set_option linter.unusedSimpArgs false
set_option maxRecDepth 100000
set_option maxHeartbeats 80000000
namespace Go.Proofs.YtphijnkiiokieaaGreatDoor
open Go.RowKit
open Go.Lib hiding intOf
theorem kind_cases {k : Int} (h : kindB k = true) : k = 1 ∨ k = 2 ∨ k = 3 ∨ k = 4 ∨ k = 5 ∨ k = 6 ∨ k = 7 ∨ k = 8 ∨ k = 9 ∨ k = 10 ∨ k = 11 := by
 unfold kindB at h
 simp only [Bool.and_eq_true, decide_eq_true_eq] at h
 omega
structure Bt (H : Int) (k : Int) : Prop where
 t : (bits .and .i64 H 1 != 0) = hT k
 c : (bits .and .i64 H 2 != 0) = hC k
 u : (bits .and .i64 H 4 != 0) = hU k
 cd : (bits .and .i64 H 8 != 0) = hK k
 n : (bits .and .i64 H 16 != 0) = hN k
 o : (bits .and .i64 H 32 != 0) = hO k
 w : (bits .and .i64 H 64 != 0) = hW k
 m : (bits .and .i64 H 128 != 0) = hM k
 i : (bits .and .i64 H 256 != 0) = hI k
theorem bt_parts {k : Int} (h : kindB k = true) : Bt (partsN k) k := by
 rcases kind_cases h with rfl | rfl | rfl | rfl | rfl | rfl | rfl | rfl | rfl | rfl | rfl
 all_goals exact ⟨by decide +kernel, by decide +kernel, by decide +kernel, by decide +kernel, by decide +kernel, by decide +kernel, by decide +kernel, by decide +kernel, by decide +kernel⟩
theorem used_extra {k : Int} (h : kindB k = true) : ∀ b1 b2 b3 b4 b5 b6 b7 b8 b9 : Bool, (bits .andNot .i64 (usedN b1 b2 b3 b4 b5 b6 b7 b8 b9) (partsN k) != 0) = (!hT k && b1 || !hC k && b2 || !hU k && b3 || !hK k && b4 || !hN k && b5 || !hO k && b6 || !hW k && b7 || !hM k && b8 || !hI k && b9) := by
 rcases kind_cases h with rfl | rfl | rfl | rfl | rfl | rfl | rfl | rfl | rfl | rfl | rfl
 all_goals decide +kernel
theorem nzO_len {l : List Opn} {len : Nat} (h : l.length = len) : nzO l = nzI (len : Int) := by
 unfold nzO nzI
 rw [h]
 by_cases h0 : len = 0
 ·
  subst h0; rfl
 ·
  rw [decide_eq_true h0]
  symm
  rw [bne_iff_ne]
  omega
structure SzQ (q : Rq) : Prop where
 t : q.t.size ≤ 1000000
 co : q.co.size ≤ 1000000
 u : q.u.size ≤ 1000000
 c : q.c.size ≤ 1000000
 ops : ∀ o ∈ q.ops, SzO o
 n : q.ops.length ≤ 1000000
abbrev rqV (q : Rq) (A : Option Addr) (len cap : Nat) : Value := .agg #[.int .i64 q.k, .string q.t, .string q.co, .string q.u, .string q.c, .int .i64 q.ck, .int .i64 q.cv, .slice A len cap, .int .i64 q.tok, .int .i64 q.mo, .int .i64 q.ti]
section
variable {w : World} {A : Option Addr} {len cap b off : Nat} {xs : List Opn}
theorem qcheck_raw (h : Ops w A len cap b off xs) (k : Int) (t co u c : ByteArray) (ck cv : Int) (tok mo ti : Int) (hz : SzQ ⟨k, t, co, u, c, ck, cv, xs, tok, mo, ti⟩) (hE : Env w) :
  Calls Tryz.prog 14 #[.agg #[.int .i64 k, .string t, .string co, .string u, .string c, .int .i64 ck, .int .i64 cv, .slice A len cap, .int .i64 tok, .int .i64 mo, .int .i64 ti]] w fun e w' => e = .returned (.int .i64 (checkQ ⟨k, t, co, u, c, ck, cv, xs, tok, mo, ti⟩)) ∧ Below w.heap.size w w' := by
 have HX0 := Zh ((Bxs.start w).new 26 #[.int .i64 k, .string t, .string co, .string u, .string c, .int .i64 ck, .int .i64 cv, .slice A len cap, .int .i64 tok, .int .i64 mo, .int .i64 ti]); have hlen := h.hlen; have hn : len ≤ 1000000 := by have := hz.n; simp only at this; omega
 have HI := Zh (fun W (hb : Below w.heap.size w W) => h.on hb); have HE := Zh (fun W (hb : Below w.heap.size w W) => hE.on hb); have HP := Zh (fun W => qparts_any k W)
 cases hk : kindB k with
 | false =>
  have H0 := Zh (show checkQ ⟨k, t, co, u, c, ck, cv, xs, tok, mo, ti⟩ = 12 by unfold checkQ; rw [if_pos hk]); rw [H0.out]; rw [hk] at HP; clear h hz hE hk H0
  go_enter Tryz.func14, Tryz.ntmps14
  go_wp2_with fail
  refine (HP.out _).mono ?_; rintro _ x1 ⟨rfl, hw⟩; subst hw
  go_wp2
  go_ret
  exact ⟨rfl, HX0.out.bel⟩
 | true =>
  have HBT := Zh (bt_parts hk); have hue := used_extra hk (nz t) (nz co) (nz u) (nz c) (nzC ck cv) (nzI (len : Int)) (nzI tok) (nzI mo) (nzI ti); have HU := Zh (fun W => used_any k t co u c ck cv A len cap tok mo ti W); have HD := Zh (fun W hb => cardOfDel_any (HI.out W hb) hn); have HN := Zh (fun W hb H x1 x2 x3 hx1 hx2 hx3 hx => named_any (HI.out W hb) hn hz.ops k t co u c ck cv tok mo ti hz.t hz.co hz.u H x1 x2 x3 hx1 hx2 hx3 hx); have HF := Zh (fun W hb H x4 hx4 => formed_any (HI.out W hb) hn hz.ops (HE.out W hb) k t co u c ck cv tok mo ti hz.c H x4 hx4); have HRG := Zh (fun W H x6 x8 hx6 hx8 => rangq_any k t co u c ck cv tok mo ti A len cap hn H x6 x8 hx6 hx8 W); have eX : extraB ⟨k, t, co, u, c, ck, cv, xs, tok, mo, ti⟩ = (!hT k && nz t || !hC k && nz co || !hU k && nz u || !hK k && nz c || !hN k && nzC ck cv || !hO k && nzI (len : Int) || !hW k && nzI tok || !hM k && nzI mo || !hI k && nzI ti) := by
   unfold extraB
   simp only
   rw [nzO_len hlen]
  rw [← eX] at hue; have hx123 : hT k = true ∧ hC k = false ∧ hU k = false ∨ hT k = false ∧ (hU k = true → hC k = true) := by
   rcases kind_cases hk with rfl | rfl | rfl | rfl | rfl | rfl | rfl | rfl | rfl | rfl | rfl <;> decide
  have H123 := Zh hx123; obtain ⟨N, hN⟩ : ∃ N, usedN (nz t) (nz co) (nz u) (nz c) (nzC ck cv) (nzI (len : Int)) (nzI tok) (nzI mo) (nzI ti) = N := ⟨_, rfl⟩; rw [hN] at hue HU; obtain ⟨H, hH⟩ : ∃ H, partsN k = H := ⟨_, rfl⟩; rw [hH] at hue HBT HP; rw [hk] at HP; obtain ⟨r, hr⟩ : ∃ r, checkQ ⟨k, t, co, u, c, ck, cv, xs, tok, mo, ti⟩ = r := ⟨_, rfl⟩; have HR := Zh (show (if (extraB ⟨k, t, co, u, c, ck, cv, xs, tok, mo, ti⟩ || !xs.all okD) = true then 1 else if (headN ⟨k, t, co, u, c, ck, cv, xs, tok, mo, ti⟩ && xs.all okU) = false then 3
    else if (headF ⟨k, t, co, u, c, ck, cv, xs, tok, mo, ti⟩ && xs.all okF) = false then 1 else if rangQ ⟨k, t, co, u, c, ck, cv, xs, tok, mo, ti⟩ = false then 12 else 0) = r by
   rw [← hr]; unfold checkQ; rw [if_neg (show ¬ kindB k = false by rw [hk]; decide)])
  rw [hr]; have eN : ((!hT k || Id.nameB t.data.toList) && (!hC k || Id.nameB co.data.toList) && (!hU k || Id.uidB u.data.toList) && xs.all okU) = (headN ⟨k, t, co, u, c, ck, cv, xs, tok, mo, ti⟩ && xs.all okU) := rfl; have eF : ((!hK k || isC c) && Et.mayB ck cv && xs.all okF) = (headF ⟨k, t, co, u, c, ck, cv, xs, tok, mo, ti⟩ && xs.all okF) := rfl; have eR : ((!hO k || decide (1 ≤ len) && decide (len ≤ 8)) && (!hM k || decide (1 ≤ mo) && decide (mo ≤ 1000)) && decide (0 ≤ tok) && decide (0 ≤ ti) && decide (ti ≤ 1048576)) = rangQ ⟨k, t, co, u, c, ck, cv, xs, tok, mo, ti⟩ := by
   unfold rangQ
   simp only [hlen]
  have CN := Zh (fun W hb => eN ▸ HN.out W hb H _ _ _ HBT.out.t HBT.out.c HBT.out.u H123.out); have CF := Zh (fun W hb => eF ▸ HF.out W hb H _ HBT.out.cd); have CR := Zh (fun W => eR ▸ HRG.out W H _ _ HBT.out.o HBT.out.m)
  generalize extraB ⟨k, t, co, u, c, ck, cv, xs, tok, mo, ti⟩ = ex at hue HR
  generalize (headN ⟨k, t, co, u, c, ck, cv, xs, tok, mo, ti⟩ && xs.all okU) = en at CN HR
  generalize (headF ⟨k, t, co, u, c, ck, cv, xs, tok, mo, ti⟩ && xs.all okF) = ef at CF HR
  generalize rangQ ⟨k, t, co, u, c, ck, cv, xs, tok, mo, ti⟩ = er at CR HR
  generalize (!xs.all okD) = ed at HD HR
  clear h hz hE hk eX eN eF eR HN HF HRG H123 hx123 hN hH hr HBT hlen; have ways : ex = true ∨ (ex = false ∧ ed = true) ∨ (ex = false ∧ ed = false ∧ en = false) ∨ (ex = false ∧ ed = false ∧ en = true ∧ ef = false) ∨ (ex = false ∧ ed = false ∧ en = true ∧ ef = true ∧ er = false) ∨ (ex = false ∧ ed = false ∧ en = true ∧ ef = true ∧ er = true) := by
   cases ex <;> cases ed <;> cases en <;> cases ef <;> cases er <;> simp
  rcases ways with rfl | ⟨rfl, rfl⟩ | ⟨rfl, rfl, rfl⟩ | ⟨rfl, rfl, rfl, rfl⟩ | ⟨rfl, rfl, rfl, rfl, rfl⟩ | ⟨rfl, rfl, rfl, rfl, rfl⟩
  ·
   have H0 := Zh (show r = 1 from HR.out.symm); clear HR
   go_enter Tryz.func14, Tryz.ntmps14
   go_wp2_with fail
   refine (HP.out _).mono ?_; rintro _ x1 ⟨rfl, hw⟩; subst hw
   go_wp2_with fail
   refine (HU.out _).mono ?_; rintro _ w1 ⟨rfl, hb⟩; have HX1 := Zh (HX0.out.step hb); clear hb; obtain ⟨a1_0, a1_1, a1_2, a1_3, a1_4, a1_5, a1_6, a1_7, a1_8, a1_9, a1_10⟩ := cs11 (HX1.out.get 0 rfl); simp only [List.getElem?_toArray, List.getElem?_cons_zero, List.getElem?_cons_succ] at a1_0 a1_1 a1_2 a1_3 a1_4 a1_5 a1_6 a1_7 a1_8 a1_9 a1_10
   go_wp2
   go_ret
   exact ⟨by rw [H0.out]; rfl, HX1.out.bel⟩
  ·
   have H0 := Zh (show r = 1 from HR.out.symm); clear HR
   go_enter Tryz.func14, Tryz.ntmps14
   go_wp2_with fail
   refine (HP.out _).mono ?_; rintro _ x1 ⟨rfl, hw⟩; subst hw
   go_wp2_with fail
   refine (HU.out _).mono ?_; rintro _ w1 ⟨rfl, hb⟩; have HX1 := Zh (HX0.out.step hb); clear hb; obtain ⟨a1_0, a1_1, a1_2, a1_3, a1_4, a1_5, a1_6, a1_7, a1_8, a1_9, a1_10⟩ := cs11 (HX1.out.get 0 rfl); simp only [List.getElem?_toArray, List.getElem?_cons_zero, List.getElem?_cons_succ] at a1_0 a1_1 a1_2 a1_3 a1_4 a1_5 a1_6 a1_7 a1_8 a1_9 a1_10
   go_wp2_with fail
   refine (HD.out _ HX1.out.bel).mono ?_; rintro _ w2 ⟨rfl, hb⟩; have HX2 := Zh (HX1.out.step hb); clear hb; obtain ⟨a2_0, a2_1, a2_2, a2_3, a2_4, a2_5, a2_6, a2_7, a2_8, a2_9, a2_10⟩ := cs11 (HX2.out.get 0 rfl); simp only [List.getElem?_toArray, List.getElem?_cons_zero, List.getElem?_cons_succ] at a2_0 a2_1 a2_2 a2_3 a2_4 a2_5 a2_6 a2_7 a2_8 a2_9 a2_10
   go_wp2
   go_ret
   exact ⟨by rw [H0.out]; rfl, HX2.out.bel⟩
  ·
   have H0 := Zh (show r = 3 from HR.out.symm); clear HR
   go_enter Tryz.func14, Tryz.ntmps14
   go_wp2_with fail
   refine (HP.out _).mono ?_; rintro _ x1 ⟨rfl, hw⟩; subst hw
   go_wp2_with fail
   refine (HU.out _).mono ?_; rintro _ w1 ⟨rfl, hb⟩; have HX1 := Zh (HX0.out.step hb); clear hb; obtain ⟨a1_0, a1_1, a1_2, a1_3, a1_4, a1_5, a1_6, a1_7, a1_8, a1_9, a1_10⟩ := cs11 (HX1.out.get 0 rfl); simp only [List.getElem?_toArray, List.getElem?_cons_zero, List.getElem?_cons_succ] at a1_0 a1_1 a1_2 a1_3 a1_4 a1_5 a1_6 a1_7 a1_8 a1_9 a1_10
   go_wp2_with fail
   refine (HD.out _ HX1.out.bel).mono ?_; rintro _ w2 ⟨rfl, hb⟩; have HX2 := Zh (HX1.out.step hb); clear hb; obtain ⟨a2_0, a2_1, a2_2, a2_3, a2_4, a2_5, a2_6, a2_7, a2_8, a2_9, a2_10⟩ := cs11 (HX2.out.get 0 rfl); simp only [List.getElem?_toArray, List.getElem?_cons_zero, List.getElem?_cons_succ] at a2_0 a2_1 a2_2 a2_3 a2_4 a2_5 a2_6 a2_7 a2_8 a2_9 a2_10
   go_wp2_with fail
   refine (CN.out _ HX2.out.bel).mono ?_; rintro _ w3 ⟨rfl, hb⟩; have HX3 := Zh (HX2.out.step hb); clear hb; obtain ⟨a3_0, a3_1, a3_2, a3_3, a3_4, a3_5, a3_6, a3_7, a3_8, a3_9, a3_10⟩ := cs11 (HX3.out.get 0 rfl); simp only [List.getElem?_toArray, List.getElem?_cons_zero, List.getElem?_cons_succ] at a3_0 a3_1 a3_2 a3_3 a3_4 a3_5 a3_6 a3_7 a3_8 a3_9 a3_10
   go_wp2
   go_ret
   exact ⟨by rw [H0.out]; rfl, HX3.out.bel⟩
  ·
   have H0 := Zh (show r = 1 from HR.out.symm); clear HR
   go_enter Tryz.func14, Tryz.ntmps14
   go_wp2_with fail
   refine (HP.out _).mono ?_; rintro _ x1 ⟨rfl, hw⟩; subst hw
   go_wp2_with fail
   refine (HU.out _).mono ?_; rintro _ w1 ⟨rfl, hb⟩; have HX1 := Zh (HX0.out.step hb); clear hb; obtain ⟨a1_0, a1_1, a1_2, a1_3, a1_4, a1_5, a1_6, a1_7, a1_8, a1_9, a1_10⟩ := cs11 (HX1.out.get 0 rfl); simp only [List.getElem?_toArray, List.getElem?_cons_zero, List.getElem?_cons_succ] at a1_0 a1_1 a1_2 a1_3 a1_4 a1_5 a1_6 a1_7 a1_8 a1_9 a1_10
   go_wp2_with fail
   refine (HD.out _ HX1.out.bel).mono ?_; rintro _ w2 ⟨rfl, hb⟩; have HX2 := Zh (HX1.out.step hb); clear hb; obtain ⟨a2_0, a2_1, a2_2, a2_3, a2_4, a2_5, a2_6, a2_7, a2_8, a2_9, a2_10⟩ := cs11 (HX2.out.get 0 rfl); simp only [List.getElem?_toArray, List.getElem?_cons_zero, List.getElem?_cons_succ] at a2_0 a2_1 a2_2 a2_3 a2_4 a2_5 a2_6 a2_7 a2_8 a2_9 a2_10
   go_wp2_with fail
   refine (CN.out _ HX2.out.bel).mono ?_; rintro _ w3 ⟨rfl, hb⟩; have HX3 := Zh (HX2.out.step hb); clear hb; obtain ⟨a3_0, a3_1, a3_2, a3_3, a3_4, a3_5, a3_6, a3_7, a3_8, a3_9, a3_10⟩ := cs11 (HX3.out.get 0 rfl); simp only [List.getElem?_toArray, List.getElem?_cons_zero, List.getElem?_cons_succ] at a3_0 a3_1 a3_2 a3_3 a3_4 a3_5 a3_6 a3_7 a3_8 a3_9 a3_10
   go_wp2_with fail
   refine (CF.out _ HX3.out.bel).mono ?_; rintro _ w4 ⟨rfl, hb⟩; have HX4 := Zh (HX3.out.step hb); clear hb; obtain ⟨a4_0, a4_1, a4_2, a4_3, a4_4, a4_5, a4_6, a4_7, a4_8, a4_9, a4_10⟩ := cs11 (HX4.out.get 0 rfl); simp only [List.getElem?_toArray, List.getElem?_cons_zero, List.getElem?_cons_succ] at a4_0 a4_1 a4_2 a4_3 a4_4 a4_5 a4_6 a4_7 a4_8 a4_9 a4_10
   go_wp2
   go_ret
   exact ⟨by rw [H0.out]; rfl, HX4.out.bel⟩
  ·
   have H0 := Zh (show r = 12 from HR.out.symm); clear HR
   go_enter Tryz.func14, Tryz.ntmps14
   go_wp2_with fail
   refine (HP.out _).mono ?_; rintro _ x1 ⟨rfl, hw⟩; subst hw
   go_wp2_with fail
   refine (HU.out _).mono ?_; rintro _ w1 ⟨rfl, hb⟩; have HX1 := Zh (HX0.out.step hb); clear hb; obtain ⟨a1_0, a1_1, a1_2, a1_3, a1_4, a1_5, a1_6, a1_7, a1_8, a1_9, a1_10⟩ := cs11 (HX1.out.get 0 rfl); simp only [List.getElem?_toArray, List.getElem?_cons_zero, List.getElem?_cons_succ] at a1_0 a1_1 a1_2 a1_3 a1_4 a1_5 a1_6 a1_7 a1_8 a1_9 a1_10
   go_wp2_with fail
   refine (HD.out _ HX1.out.bel).mono ?_; rintro _ w2 ⟨rfl, hb⟩; have HX2 := Zh (HX1.out.step hb); clear hb; obtain ⟨a2_0, a2_1, a2_2, a2_3, a2_4, a2_5, a2_6, a2_7, a2_8, a2_9, a2_10⟩ := cs11 (HX2.out.get 0 rfl); simp only [List.getElem?_toArray, List.getElem?_cons_zero, List.getElem?_cons_succ] at a2_0 a2_1 a2_2 a2_3 a2_4 a2_5 a2_6 a2_7 a2_8 a2_9 a2_10
   go_wp2_with fail
   refine (CN.out _ HX2.out.bel).mono ?_; rintro _ w3 ⟨rfl, hb⟩; have HX3 := Zh (HX2.out.step hb); clear hb; obtain ⟨a3_0, a3_1, a3_2, a3_3, a3_4, a3_5, a3_6, a3_7, a3_8, a3_9, a3_10⟩ := cs11 (HX3.out.get 0 rfl); simp only [List.getElem?_toArray, List.getElem?_cons_zero, List.getElem?_cons_succ] at a3_0 a3_1 a3_2 a3_3 a3_4 a3_5 a3_6 a3_7 a3_8 a3_9 a3_10
   go_wp2_with fail
   refine (CF.out _ HX3.out.bel).mono ?_; rintro _ w4 ⟨rfl, hb⟩; have HX4 := Zh (HX3.out.step hb); clear hb; obtain ⟨a4_0, a4_1, a4_2, a4_3, a4_4, a4_5, a4_6, a4_7, a4_8, a4_9, a4_10⟩ := cs11 (HX4.out.get 0 rfl); simp only [List.getElem?_toArray, List.getElem?_cons_zero, List.getElem?_cons_succ] at a4_0 a4_1 a4_2 a4_3 a4_4 a4_5 a4_6 a4_7 a4_8 a4_9 a4_10
   go_wp2_with fail
   refine (CR.out _).mono ?_; rintro _ w5 ⟨rfl, hb⟩; have HX5 := Zh (HX4.out.step hb); clear hb; obtain ⟨a5_0, a5_1, a5_2, a5_3, a5_4, a5_5, a5_6, a5_7, a5_8, a5_9, a5_10⟩ := cs11 (HX5.out.get 0 rfl); simp only [List.getElem?_toArray, List.getElem?_cons_zero, List.getElem?_cons_succ] at a5_0 a5_1 a5_2 a5_3 a5_4 a5_5 a5_6 a5_7 a5_8 a5_9 a5_10
   go_wp2
   go_ret
   exact ⟨by rw [H0.out]; rfl, HX5.out.bel⟩
  ·
   have H0 := Zh (show r = 0 from HR.out.symm); clear HR
   go_enter Tryz.func14, Tryz.ntmps14
   go_wp2_with fail
   refine (HP.out _).mono ?_; rintro _ x1 ⟨rfl, hw⟩; subst hw
   go_wp2_with fail
   refine (HU.out _).mono ?_; rintro _ w1 ⟨rfl, hb⟩; have HX1 := Zh (HX0.out.step hb); clear hb; obtain ⟨a1_0, a1_1, a1_2, a1_3, a1_4, a1_5, a1_6, a1_7, a1_8, a1_9, a1_10⟩ := cs11 (HX1.out.get 0 rfl); simp only [List.getElem?_toArray, List.getElem?_cons_zero, List.getElem?_cons_succ] at a1_0 a1_1 a1_2 a1_3 a1_4 a1_5 a1_6 a1_7 a1_8 a1_9 a1_10
   go_wp2_with fail
   refine (HD.out _ HX1.out.bel).mono ?_; rintro _ w2 ⟨rfl, hb⟩; have HX2 := Zh (HX1.out.step hb); clear hb; obtain ⟨a2_0, a2_1, a2_2, a2_3, a2_4, a2_5, a2_6, a2_7, a2_8, a2_9, a2_10⟩ := cs11 (HX2.out.get 0 rfl); simp only [List.getElem?_toArray, List.getElem?_cons_zero, List.getElem?_cons_succ] at a2_0 a2_1 a2_2 a2_3 a2_4 a2_5 a2_6 a2_7 a2_8 a2_9 a2_10
   go_wp2_with fail
   refine (CN.out _ HX2.out.bel).mono ?_; rintro _ w3 ⟨rfl, hb⟩; have HX3 := Zh (HX2.out.step hb); clear hb; obtain ⟨a3_0, a3_1, a3_2, a3_3, a3_4, a3_5, a3_6, a3_7, a3_8, a3_9, a3_10⟩ := cs11 (HX3.out.get 0 rfl); simp only [List.getElem?_toArray, List.getElem?_cons_zero, List.getElem?_cons_succ] at a3_0 a3_1 a3_2 a3_3 a3_4 a3_5 a3_6 a3_7 a3_8 a3_9 a3_10
   go_wp2_with fail
   refine (CF.out _ HX3.out.bel).mono ?_; rintro _ w4 ⟨rfl, hb⟩; have HX4 := Zh (HX3.out.step hb); clear hb; obtain ⟨a4_0, a4_1, a4_2, a4_3, a4_4, a4_5, a4_6, a4_7, a4_8, a4_9, a4_10⟩ := cs11 (HX4.out.get 0 rfl); simp only [List.getElem?_toArray, List.getElem?_cons_zero, List.getElem?_cons_succ] at a4_0 a4_1 a4_2 a4_3 a4_4 a4_5 a4_6 a4_7 a4_8 a4_9 a4_10
   go_wp2_with fail
   refine (CR.out _).mono ?_; rintro _ w5 ⟨rfl, hb⟩; have HX5 := Zh (HX4.out.step hb); clear hb; obtain ⟨a5_0, a5_1, a5_2, a5_3, a5_4, a5_5, a5_6, a5_7, a5_8, a5_9, a5_10⟩ := cs11 (HX5.out.get 0 rfl); simp only [List.getElem?_toArray, List.getElem?_cons_zero, List.getElem?_cons_succ] at a5_0 a5_1 a5_2 a5_3 a5_4 a5_5 a5_6 a5_7 a5_8 a5_9 a5_10
   go_wp2
   go_ret
   exact ⟨by rw [H0.out]; rfl, HX5.out.bel⟩
theorem qcheck_any {q : Rq} (h : Ops w A len cap b off q.ops) (hz : SzQ q) (hE : Env w) : Calls Tryz.prog 14 #[rqV q A len cap] w fun e w' => e = .returned (.int .i64 (checkQ q)) ∧ Below w.heap.size w w' := by
 obtain ⟨k, t, co, u, c, ck, cv, ops, tok, mo, ti⟩ := q
 exact qcheck_raw h k t co u c ck cv tok mo ti hz hE
end
def writesB (k : Int) : Bool := decide (k = 2 ∨ k = 3 ∨ k = 4 ∨ k = 5 ∨ k = 7)
theorem writes_any (k : Int) (w : World) : Calls Tryz.prog 17 #[.int .i64 k] w fun e w' => e = .returned (.bool (writesB k)) ∧ w' = w := by
 by_cases h : k = 2 ∨ k = 3 ∨ k = 4 ∨ k = 5 ∨ k = 7
 ·
  rcases h with rfl | rfl | rfl | rfl | rfl
  all_goals
   go_enter Tryz.func17, Tryz.ntmps17
   go_wp2
   go_ret
   exact ⟨rfl, rfl⟩
 ·
  have h2 : (k == 2) = false := by simp; omega
  have h3 : (k == 3) = false := by simp; omega
  have h4 : (k == 4) = false := by simp; omega
  have h5 : (k == 5) = false := by simp; omega
  have h7 : (k == 7) = false := by simp; omega
  have H0 := Zh (show writesB k = false from decide_eq_false h); clear h
  go_enter Tryz.func17, Tryz.ntmps17
  go_wp2
  go_ret
  exact ⟨by rw [H0.out]; rfl, rfl⟩
end Go.Proofs.YtphijnkiiokieaaGreatDoor
