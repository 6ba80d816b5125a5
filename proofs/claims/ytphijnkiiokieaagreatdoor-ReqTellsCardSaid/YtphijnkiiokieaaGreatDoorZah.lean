/- Texts of one proof, joined. -/
import Derived.Test.YtphijnkiiokieaaGreatDoorZag
import Derived.Lib.TrimByte
set_option linter.unusedVariables false
set_option linter.unusedSimpArgs false
set_option maxRecDepth 100000
set_option maxHeartbeats 80000000
namespace Go.Proofs.YtphijnkiiokieaaGreatDoor
open Go.RowKit Go.Lib
theorem lead_run (l : List UInt8) (hne : l ≠ []) (h0 : 128 ≤ (l.getD 0 0).toNat) (hv : validD l = true) :
  ∃ k, 2 ≤ k ∧ k ≤ l.length ∧ validD (l.drop k) = true ∧ (∀ j, j < k → 128 ≤ (l.getD j 0).toNat) ∧ ∀ m : List UInt8, k ≤ m.length → (∀ j, j < k → m.getD j 0 = l.getD j 0) → validD m = validD (m.drop k) := by
 rw [validD_lead l hne h0] at hv; have fin : ∀ sz lo hi, firstT (l.getD 0 0).toNat % 8 = sz → accLo (firstT (l.getD 0 0).toNat / 16) = lo → accHi (firstT (l.getD 0 0).toNat / 16) = hi → (sz = 2 ∨ sz = 3 ∨ sz = 4 → 128 ≤ lo) → (sz = 2 ∨ sz = 3 ∨ sz = 4 ∨ (sz ≠ 2 ∧ sz ≠ 3 ∧ sz ≠ 4)) →
   ∃ k, 2 ≤ k ∧ k ≤ l.length ∧ validD (l.drop k) = true ∧ (∀ j, j < k → 128 ≤ (l.getD j 0).toNat) ∧ ∀ m : List UInt8, k ≤ m.length → (∀ j, j < k → m.getD j 0 = l.getD j 0) → validD m = validD (m.drop k) := by
  intro sz lo hi e1 e2 e3 hlo hsz; rw [e1, e2, e3] at hv; have hm : ∀ (k : Nat) (m : List UInt8), 2 ≤ k → k ≤ m.length → (∀ j, j < k → m.getD j 0 = l.getD j 0) → checkN m.length (m.getD 1 0).toNat (m.getD 2 0).toNat (m.getD 3 0).toNat sz lo hi = some k → validD m = validD (m.drop k) := by
   intro k m h2 hk he hc; have h00 := he 0 (by omega); rw [validD_lead m (by rintro rfl; simp at hk; omega) (by rw [h00]; exact h0), h00, e1, e2, e3, hc]
  rcases hsz with rfl | rfl | rfl | ⟨n2, n3, n4⟩
  ·
   have hlo := hlo (by decide)
   unfold checkN at hv hm
   simp only [if_true] at hv hm
   split at hv
   next h => split at h <;> simp_all
   next k h =>
    split at h
    ·
     cases h
    ·
     obtain rfl := Option.some.inj h; refine ⟨2, by omega, by omega, hv, fun j hj => ?_, fun m hk he => hm 2 m (by omega) hk he ?_⟩
     ·
      match j, hj with
      | 0, _ => exact h0
      | 1, _ => omega
     ·
      rw [he 1 (by omega), if_neg (by omega)]
  ·
   have hlo := hlo (by decide)
   unfold checkN at hv hm
   simp only [if_true, show ¬ (3 = 2) by decide, if_false] at hv hm
   split at hv
   next h => split at h <;> simp_all
   next k h =>
    split at h
    ·
     cases h
    ·
     obtain rfl := Option.some.inj h; refine ⟨3, by omega, by omega, hv, fun j hj => ?_, fun m hk he => hm 3 m (by omega) hk he ?_⟩
     ·
      match j, hj with
      | 0, _ => exact h0
      | 1, _ => omega
      | 2, _ => omega
     ·
      rw [he 1 (by omega), he 2 (by omega), if_neg (by omega)]
  ·
   have hlo := hlo (by decide)
   unfold checkN at hv hm
   simp only [if_true, show ¬ (4 = 2) by decide, show ¬ (4 = 3) by decide, if_false] at hv hm
   split at hv
   next h => split at h <;> simp_all
   next k h =>
    split at h
    ·
     cases h
    ·
     obtain rfl := Option.some.inj h; refine ⟨4, by omega, by omega, hv, fun j hj => ?_, fun m hk he => hm 4 m (by omega) hk he ?_⟩
     ·
      match j, hj with
      | 0, _ => exact h0
      | 1, _ => omega
      | 2, _ => omega
      | 3, _ => omega
     ·
      rw [he 1 (by omega), he 2 (by omega), he 3 (by omega), if_neg (by omega)]
  ·
   unfold checkN at hv
   rw [if_neg n2, if_neg n3, if_neg n4] at hv
   cases hv
 refine fin _ _ _ rfl rfl rfl ?_ (by omega)
 rcases firstT_cases (l.getD 0 0).toNat with h | h | h | h | h | h | h | h | h <;> rw [h] <;> decide
def Whole (o : List UInt8) : Prop := ∀ r, validD (o ++ r) = validD r
theorem Whole.nil : Whole [] := fun _ => rfl
theorem Whole.app {o p : List UInt8} (h : Whole o) (k : Whole p) : Whole (o ++ p) := fun r => by rw [List.append_assoc, h, k]
theorem Whole.one {c : UInt8} (h : c.toNat < 128) : Whole [c] := fun r => validD_cons c r h
theorem Whole.valid {o : List UInt8} (h : Whole o) : validD o = true := by have := h []; simpa [validD_nil] using this
theorem lead_whole (l : List UInt8) (k : Nat) (hk : k ≤ l.length) (h : ∀ m : List UInt8, k ≤ m.length → (∀ j, j < k → m.getD j 0 = l.getD j 0) → validD m = validD (m.drop k)) : Whole (l.take k) := by
 intro r; have hl : (l.take k).length = k := by simp; omega
 rw [h (l.take k ++ r) (by simp; omega) (fun j hj => by
  simp only [List.getD_eq_getElem?_getD]
  rw [List.getElem?_append_left (by omega), List.getElem?_take, if_pos hj]), List.drop_append_of_le_length (by omega), List.drop_of_length_le (by omega)]
 rfl
theorem valid_whole : ∀ (n : Nat) (l : List UInt8), l.length ≤ n → validD l = true → Whole l
 | _, [], _, _ => Whole.nil
 | 0, _ :: _, h, _ => by simp at h
 | n + 1, c :: t, h, hv => by
  by_cases hc : c.toNat < 128
  ·
   rw [validD_cons c t hc] at hv
   exact (Whole.one hc).app (valid_whole n t (by simp at h; omega) hv)
  ·
   obtain ⟨k, h2, hk, hd, _, hm⟩ := lead_run (c :: t) (by simp) (by simp; omega) hv; have := (lead_whole _ k hk hm).app (valid_whole n ((c :: t).drop k) (by simp at h ⊢; omega) hd)
   rwa [List.take_append_drop] at this
theorem run_solid : ∀ (p : List UInt8) (o : List UInt8), (∀ c ∈ p, c ≠ 32) → run (false, o) p = (false, o ++ p)
 | [], o, _ => by simp [run]
 | c :: p, o, h => by
  rw [run_cons, step_n _ _ (h c List.mem_cons_self)]; simp only [Bool.false_eq_true, false_and, if_false]; rw [run_solid p _ (fun d hd => h d (List.mem_cons.2 (.inr hd)))]
  simp
theorem run_whole : ∀ (n : Nat) (l : List UInt8) (g : Bool) (o : List UInt8), l.length ≤ n → validD l = true → Whole o → Whole (run (g, o) l).2
 | _, [], _, _, _, _, h => h
 | 0, _ :: _, _, _, h, _, _ => by simp at h
 | n + 1, c :: t, g, o, h, hv, ho => by
  have ho2 : Whole (if g = true ∧ o ≠ [] then o ++ [32] else o) := by
   split
   ·
    exact ho.app (Whole.one (by decide))
   ·
    exact ho
  by_cases hc : c.toNat < 128
  ·
   rw [validD_cons c t hc] at hv; rw [run_cons]
   by_cases h32 : c = 32
   ·
    subst h32; rw [step_b]; exact run_whole n t _ _ (by simp at h; omega) hv ho
   ·
    rw [step_n _ _ h32]; exact run_whole n t _ _ (by simp at h; omega) hv (ho2.app (Whole.one hc))
  ·
   obtain ⟨k, h2, hk, hd, hb, hm⟩ := lead_run (c :: t) (by simp) (by simp; omega) hv; have hw := lead_whole _ k hk hm; have hne : ∀ d ∈ (c :: t).take k, d ≠ 32 := by
    intro d hd2 e; obtain ⟨j, hj, he⟩ := List.getElem_of_mem hd2; have hj' : j < k := by simp at hj; omega
    have := hb j hj'; rw [List.getElem_take] at he; simp only [List.getD_eq_getElem?_getD] at this; rw [List.getElem?_eq_getElem (by simp at hj; omega)] at this; simp only [Option.getD_some] at this; rw [he, e] at this
    exact absurd this (by decide)
   have e1 : run (g, o) (c :: t) = run (run (g, o) ((c :: t).take k)) ((c :: t).drop k) := by rw [← run_app, List.take_append_drop]
   have e2 : (c :: t).take k = c :: t.take (k - 1) := by
    cases k with
    | zero => omega
    | succ k => rfl
   have e3 : run (g, o) ((c :: t).take k) = (false, (if g = true ∧ o ≠ [] then o ++ [32] else o) ++ (c :: t).take k) := by
    rw [e2] at hne ⊢; rw [run_cons, step_n _ _ (hne c List.mem_cons_self), run_solid _ _ (fun d hd => hne d (List.mem_cons.2 (.inr hd)))]
    simp
   rw [e1, e3]
   exact run_whole n _ _ _ (by simp at h ⊢; omega) hd (ho2.app hw)
theorem sq_whole (l : List UInt8) (h : validD l = true) : Whole (sq l) := run_whole l.length l false [] (Nat.le_refl _) h Whole.nil
end Go.Proofs.YtphijnkiiokieaaGreatDoor
namespace Go.Proofs.YtphijnkiiokieaaGreatDoor
open Go.RowKit
open Go.Lib hiding intOf
def isDig (c : UInt8) : Bool := decide (48 ≤ (c.toNat : Int)) && decide ((c.toNat : Int) ≤ 57)
def dgsL (l : List UInt8) : List UInt8 := trimPrefix l [43]
def telB (l : List UInt8) : Bool := decide (3 ≤ ((dgsL l).length : Int)) && decide (((dgsL l).length : Int) ≤ 15) && (dgsL l).all isDig
def betw (c : UInt8) : Bool := c == 32 || c == 45 || c == 46 || c == 47 || c == 40 || c == 41
def bareL (l : List UInt8) : List UInt8 := l.filter (fun c => !betw c)
def telOf (t : ByteArray) (k : Int) : ByteArray × Int := if k = 0 then (if telB (bareL t.data.toList) = true then (⟨(bareL t.data.toList).toArray⟩, 0) else (⟨#[]⟩, 1)) else (⟨#[]⟩, k)
def telS (s : ByteArray) : ByteArray × Int := telOf (cleanS s).1 (cleanS s).2
theorem run_len : ∀ (l : List UInt8) (g : Bool) (o : List UInt8), (run (g, o) l).2.length ≤ o.length + l.length + (if g = true ∧ o ≠ [] then 1 else 0)
 | [], g, o => by show o.length ≤ _; omega
 | c :: t, g, o => by
  by_cases hc : c = 32
  ·
   subst hc; have ih := run_len t true o
   show (run (sqStep (g, o) 32) t).2.length ≤ _
   rw [step_b]; have : (if true = true ∧ o ≠ [] then 1 else 0) ≤ 1 := by split <;> omega
   simp only [List.length_cons]
   omega
  ·
   show (run (sqStep (g, o) c) t).2.length ≤ _
   rw [step_n _ _ hc]; have ih := run_len t false ((if g = true ∧ o ≠ [] then o ++ [32] else o) ++ [c]); simp only [Bool.false_eq_true, false_and, if_false, List.length_append, List.length_cons, List.length_nil] at ih ⊢; refine Nat.le_trans ih ?_
   split <;> simp <;> omega
theorem sq_len (l : List UInt8) : (sq l).length ≤ l.length := by
 have := run_len l false []
 show (run (false, []) l).2.length ≤ _
 simpa using this
theorem bare_app (a b : List UInt8) : bareL (a ++ b) = bareL a ++ bareL b := List.filter_append ..
theorem run_bare : ∀ (l : List UInt8) (g : Bool) (o : List UInt8), bareL (run (g, o) l).2 = bareL o ++ bareL l
 | [], g, o => by show bareL o = _; simp [bareL]
 | c :: t, g, o => by
  have e : c :: t = [c] ++ t := rfl
  by_cases hc : c = 32
  ·
   subst hc
   show bareL (run (sqStep (g, o) 32) t).2 = _
   rw [step_b, run_bare t, e, bare_app]
   rfl
  ·
   show bareL (run (sqStep (g, o) c) t).2 = _
   rw [step_n _ _ hc, run_bare t, bare_app, e, bare_app]; have : bareL (if g = true ∧ o ≠ [] then o ++ [32] else o) = bareL o := by
    split
    ·
     rw [bare_app]; simp [bareL, betw]
    ·
     rfl
   show bareL (if g = true ∧ o ≠ [] then o ++ [32] else o) ++ bareL [c] ++ bareL t = _
   rw [this, List.append_assoc]
theorem sq_bare (l : List UInt8) : bareL (sq l) = bareL l := by
 have := run_bare l false []
 show bareL (run (false, []) l).2 = _
 simpa [bareL] using this
theorem tascii_valid : ∀ (l : List UInt8), (∀ c ∈ l, c.toNat < 128) → validD l = true
 | [], _ => rfl
 | c :: t, h => by rw [validD_cons c t (h c (by simp))]; exact tascii_valid t (fun d hd => h d (by simp [hd]))
theorem tplain_ctl (l : List UInt8) (h : ∀ c ∈ l, 32 ≤ c.toNat ∧ c.toNat ≤ 126) : l.any ctl = false := by
 rw [List.any_eq_false]; intro c hc; have := h c hc
 unfold ctl
 simp only [Bool.or_eq_true, decide_eq_true_eq, beq_iff_eq]
 omega
theorem tbs_list (l : List UInt8) : (⟨l.toArray⟩ : ByteArray).data.toList = l := rfl
theorem tel_of (x : List UInt8) (h : ∀ c ∈ x, 32 ≤ c.toNat ∧ c.toNat ≤ 126) (hl : x.length ≤ 64) (ht : telB (bareL x) = true) : telS ⟨x.toArray⟩ = (⟨(bareL x).toArray⟩, 0) := by
 have hne : bareL x ≠ [] := by
  intro e; rw [e] at ht
  exact absurd ht (by decide)
 have hsq : sq x ≠ [] := by
  intro e; have := sq_bare x; rw [e] at this
  exact hne (this.symm.trans rfl)
 have hc : cleanS ⟨x.toArray⟩ = (⟨(sq x).toArray⟩, 0) := by
  unfold cleanS
  rw [tbs_list, tascii_valid x (fun c hc => by have := h c hc; omega), tplain_ctl x h, squeezeS_sq, tbs_list]
  unfold cleanOf
  have h1 := sq_len x
  rw [if_neg (by decide), if_neg (fun e => hsq (by have := congrArg (fun b : ByteArray => b.data.toList) e; simpa using this)), if_neg (by
   show ¬ (64 < (((sq x).toArray.size : Nat) : Int))
   simp; omega)]
 unfold telS telOf
 rw [hc]; simp only [if_true, sq_bare, ht]
theorem dgs_split (l : List UInt8) : ∃ p, l = p ++ dgsL l ∧ (p = [] ∨ p = [43]) ∧ p = l.take (l.length - (dgsL l).length) := by
 unfold dgsL trimPrefix
 by_cases h : hasPrefix l [43] = true
 ·
  rw [if_pos h]
  cases l with
  | nil => cases h
  | cons c t =>
   have hc : c = 43 := by unfold hasPrefix at h; simp [List.isPrefixOf] at h; exact h.symm
   subst hc
   exact ⟨[43], rfl, .inr rfl, by simp⟩
 ·
  rw [if_neg h]
  exact ⟨[], rfl, .inl rfl, by simp⟩
theorem telB_iff (l : List UInt8) : telB l = true ↔ 3 ≤ (dgsL l).length ∧ (dgsL l).length ≤ 15 ∧ ∀ c ∈ dgsL l, isDig c = true := by
 unfold telB
 simp only [Bool.and_eq_true, decide_eq_true_eq, List.all_eq_true]
 constructor
 ·
  rintro ⟨⟨a, b⟩, c⟩; exact ⟨by omega, by omega, c⟩
 ·
  rintro ⟨a, b, c⟩; exact ⟨⟨by omega, by omega⟩, c⟩
theorem dig_iff (c : UInt8) : isDig c = true ↔ 48 ≤ c.toNat ∧ c.toNat ≤ 57 := by
 unfold isDig
 simp only [Bool.and_eq_true, decide_eq_true_eq]
 omega
theorem betw_cases (c : UInt8) (h : betw c = true) : 32 ≤ c.toNat ∧ c.toNat ≤ 47 ∧ c.toNat ≠ 43 := by
 unfold betw at h
 simp only [Bool.or_eq_true, beq_iff_eq] at h
 rcases h with ((((h | h) | h) | h) | h) | h <;> subst h <;> decide
theorem bare_id (l : List UInt8) (h : ∀ c ∈ l, betw c = false) : bareL l = l := by
 unfold bareL
 exact List.filter_eq_self.2 (fun c hc => by rw [h c hc]; rfl)
theorem dig_not (c : UInt8) (h : isDig c = true) : betw c = false := by
 have := (dig_iff c).1 h
 cases e : betw c with
 | false => rfl
 | true => have := betw_cases c e; omega
theorem tel_plain {l : List UInt8} (h : telB l = true) : (∀ c ∈ l, betw c = false ∧ 32 ≤ c.toNat ∧ c.toNat ≤ 126) ∧ l.length ≤ 16 := by
 obtain ⟨h1, h2, h3⟩ := (telB_iff l).1 h; obtain ⟨p, hl, hp, _⟩ := dgs_split l
 constructor
 ·
  intro c hc; rw [hl] at hc
  rcases List.mem_append.1 hc with hc | hc
  ·
   rcases hp with rfl | rfl
   ·
    cases hc
   ·
    simp at hc; subst hc; decide
  ·
   have := (dig_iff c).1 (h3 c hc)
   exact ⟨dig_not c (h3 c hc), by omega, by omega⟩
 ·
  have := congrArg List.length hl; rw [List.length_append] at this; have hp2 : p.length ≤ 1 := by rcases hp with rfl | rfl <;> simp
  omega
theorem tel_self {l : List UInt8} (h : telB l = true) : telS ⟨l.toArray⟩ = (⟨l.toArray⟩, 0) := by
 obtain ⟨h1, h2⟩ := tel_plain h; have hb : bareL l = l := bare_id l (fun c hc => (h1 c hc).1); have := tel_of l (fun c hc => (h1 c hc).2) (by omega) (by rw [hb]; exact h)
 rwa [hb] at this
theorem tel_cases (s : ByteArray) : ((telS s).2 = 0 ∧ telB (telS s).1.data.toList = true) ∨ ((telS s).2 ≠ 0 ∧ (telS s).1 = ⟨#[]⟩ ∧ telB s.data.toList = false) := by
 by_cases h : telB s.data.toList = true
 ·
  have := tel_self h; have e : (⟨s.data.toList.toArray⟩ : ByteArray) = s := rfl; rw [e] at this
  left
  rw [this]
  exact ⟨rfl, h⟩
 ·
  have h' : telB s.data.toList = false := by simpa using h
  unfold telS telOf
  by_cases hk : (cleanS s).2 = 0
  ·
   rw [if_pos hk]
   by_cases ht : telB (bareL (cleanS s).1.data.toList) = true
   ·
    rw [if_pos ht]; exact .inl ⟨rfl, ht⟩
   ·
    rw [if_neg ht]; exact .inr ⟨by simp, rfl, h'⟩
  ·
   rw [if_neg hk]; exact .inr ⟨hk, rfl, h'⟩
theorem digits_any (s : ByteArray) (w : World) : Calls Tryz.prog 180 #[.string s] w fun e w' => e = .returned (.string ⟨(dgsL s.data.toList).toArray⟩) ∧ w' = w := by
 have H := Zh (fun w => Tryz.strings_TrimPrefix s ⟨#[43]⟩ w); have HD := Zh (show dgsL s.data.toList = trimPrefix s.data.toList [43] from rfl); rw [HD.out]
 go_enter Tryz.func180, Tryz.ntmps180
 go_wp2_with (go_at_call 190; refine (H.out _).mono ?_; rintro e w1 ⟨rfl, hw⟩; replace hw := hw.symm; subst hw)
 go_ret
 exact ⟨rfl, rfl⟩
theorem all_take_snoc (d : ByteArray) (k : Nat) (hk : k < d.size) : (d.data.toList.take (k + 1)).all isDig = ((d.data.toList.take k).all isDig && isDig d[k]) := by
 rw [List.take_succ_eq_append_getElem (by simpa using hk), List.all_append]
 simp
 rfl
theorem all_miss (d : ByteArray) (k : Nat) (hk : k < d.size) (h : isDig d[k] = false) : d.data.toList.all isDig = false := by
 rw [List.all_eq_false]; refine ⟨d[k], ?_, by rw [h]; simp⟩; have : d.data.toList[k]'(by simpa using hk) ∈ d.data.toList := List.getElem_mem _
 exact this
theorem is_any (s : ByteArray) (hs : s.size ≤ 1000000) (w : World) : Calls Tryz.prog 161 #[.string s] w fun e w' => e = .returned (.bool (telB s.data.toList)) ∧ w' = w := by
 have HD0 := digits_any s; have hr : telB s.data.toList = (decide (3 ≤ ((dgsL s.data.toList).length : Int)) && decide (((dgsL s.data.toList).length : Int) ≤ 15) && (dgsL s.data.toList).all isDig) := rfl; have hle : (dgsL s.data.toList).length ≤ s.size := by have := trimPrefix_le s.data.toList [43]; simpa [dgsL] using this
 obtain ⟨d, hd⟩ : ∃ d : ByteArray, (⟨(dgsL s.data.toList).toArray⟩ : ByteArray) = d := ⟨_, rfl⟩; have hdl : d.data.toList = dgsL s.data.toList := by rw [← hd]
 have hds : (dgsL s.data.toList).length = d.size := by rw [← hdl]; simp
 rw [hd] at HD0; rw [hds] at hr hle; rw [← hdl] at hr; obtain ⟨r, hrr⟩ : ∃ r, telB s.data.toList = r := ⟨_, rfl⟩; rw [hrr] at hr ⊢; have HD := Zh HD0; have HR := Zh hr; have hdI : (d.size : Int) ≤ 1000000 := by omega
 clear HD0 hr hrr hds hdl hd hle
 by_cases h3 : (d.size : Int) < 3
 ·
  have H0 := Zh (show r = false by rw [HR.out, decide_eq_false (by omega)]; rfl)
  go_enter Tryz.func161, Tryz.ntmps161
  go_wp2_with (go_at_call 180; refine (HD.out _).mono ?_; rintro e w1 ⟨rfl, hw⟩; replace hw := hw.symm; subst hw)
  go_ret
  exact ⟨by rw [H0.out]; rfl, rfl⟩
 ·
  by_cases h15 : (d.size : Int) > 15
  ·
   have H0 := Zh (show r = false by rw [HR.out, decide_eq_false (show ¬ (d.size : Int) ≤ 15 by omega)]; simp)
   go_enter Tryz.func161, Tryz.ntmps161
   go_wp2_with (go_at_call 180; refine (HD.out _).mono ?_; rintro e w1 ⟨rfl, hw⟩; replace hw := hw.symm; subst hw)
   go_ret
   exact ⟨by rw [H0.out]; rfl, rfl⟩
  ·
   have HR2 := Zh (show r = d.data.toList.all isDig by rw [HR.out, decide_eq_true (by omega), decide_eq_true (by omega)]; rfl); clear HR
   go_enter Tryz.func161, Tryz.ntmps161
   go_wp2_with (go_at_call 180; refine (HD.out _).mono ?_; rintro e w1 ⟨rfl, hw⟩; replace hw := hw.symm; subst hw)
   go_loop [17] (fun i => ∃ k : Nat, k ≤ d.size ∧ i = .int .i64 (k : Int) ∧ (d.data.toList.take k).all isDig = true) (fun i => d.size - (intOf i).toNat)
   case atStart => exact ⟨0, Nat.zero_le _, rfl, by simp⟩
   case round =>
    obtain ⟨k, hk, rfl, hno⟩ := hrel; have HN := Zh hno; clear hno
    by_cases hlt : k < d.size
    ·
     have HT := Zh (all_take_snoc d k hlt); have HM := Zh (all_miss d k hlt); obtain ⟨c, hc⟩ : ∃ c, d[k] = c := ⟨_, rfl⟩; rw [hc] at HT HM; have hc8 : (c.toNat : Int) ≤ 255 := by have := c.toNat_lt; omega
     by_cases u1 : (c.toNat : Int) < 48
     ·
      have H0 := Zh (show r = false by rw [HR2.out]; exact HM.out (by unfold isDig; rw [decide_eq_false (by omega)]; rfl))
      go_wp2
      go_ret
      exact ⟨by rw [H0.out]; rfl, rfl⟩
     ·
      have u1' : decide ((c.toNat : Int) < 48) = false := by simpa using u1
      by_cases u2 : (c.toNat : Int) > 57
      ·
       have H0 := Zh (show r = false by rw [HR2.out]; exact HM.out (by unfold isDig; rw [decide_eq_false (show ¬ (c.toNat : Int) ≤ 57 by omega)]; simp))
       go_wp2
       go_ret
       exact ⟨by rw [H0.out]; rfl, rfl⟩
      ·
       have u2' : decide ((c.toNat : Int) > 57) = false := by simpa using u2
       have HE := Zh (show (d.data.toList.take (k + 1)).all isDig = true by
        rw [HT.out, HN.out]; unfold isDig; rw [decide_eq_true (by omega), decide_eq_true (by omega)]; rfl)
       go_wp2
       exact ⟨⟨k + 1, by omega, by go_num, HE.out⟩, by simp [intOf]; omega⟩
    ·
     have hks : k = d.size := by omega
     subst hks; have H0 := Zh (show r = true by rw [HR2.out, ← HN.out, List.take_of_length_le (by simp)])
     go_wp2
     go_ret
     exact ⟨by rw [H0.out]; rfl, rfl⟩
theorem betw_index (c : UInt8) : (betw c = true ∧ (∃ j : Int, 0 ≤ j ∧ indexByte [32, 45, 46, 47, 40, 41] c = j)) ∨ (betw c = false ∧ indexByte [32, 45, 46, 47, 40, 41] c = -1) := by
 cases h : betw c with
 | true =>
  refine .inl ⟨rfl, _, ?_, rfl⟩
  unfold betw at h
  simp only [Bool.or_eq_true, beq_iff_eq] at h
  rcases h with ((((h | h) | h) | h) | h) | h <;> subst h <;> decide
 | false =>
  refine .inr ⟨rfl, ?_⟩
  unfold betw at h
  simp only [Bool.or_eq_false_iff, beq_eq_false_iff_ne] at h; obtain ⟨⟨⟨⟨⟨h1, h2⟩, h3⟩, h4⟩, h5⟩, h6⟩ := h; simp only [indexByte, beq_iff_eq, h1.symm, h2.symm, h3.symm, h4.symm, h5.symm, h6.symm, if_false, if_true]
theorem bare_snoc (s : ByteArray) (k : Nat) (hk : k < s.size) : bareL (s.data.toList.take (k + 1)) = bareL (s.data.toList.take k) ++ bareL [s[k]] := by
 rw [List.take_succ_eq_append_getElem (by simpa using hk), bare_app]; rfl
theorem bare_le (l : List UInt8) : (bareL l).length ≤ l.length := List.length_filter_le _ _
theorem bare_any (s : ByteArray) (hs : s.size ≤ 1000000) (w : World) : Calls Tryz.prog 160 #[.string s] w fun e w' => e = .returned (.string ⟨(bareL s.data.toList).toArray⟩) ∧ Below w.heap.size w w' := by
 obtain ⟨B, hB⟩ : ∃ B, w.heap.size = B := ⟨_, rfl⟩; obtain ⟨r, hr⟩ : ∃ r : ByteArray, (⟨(bareL s.data.toList).toArray⟩ : ByteArray) = r := ⟨_, rfl⟩; have HP := Zh hr.symm; rw [hr]; clear hr; have HIB := Zh (fun (c : UInt8) w => Tryz.strings_IndexByte ⟨#[32, 45, 46, 47, 40, 41]⟩ (c.toNat : Int) w); have HF := Zh (Lib.fresh_isBuilder 122 5 w); have HB0 := Zh ((Below.refl w.heap.size w).alloc (Nat.le_refl _) (.cells #[.pointer none, .slice none 0 0] 122)); rw [hB] at HF HB0
 go_enter Tryz.func160, Tryz.ntmps160
 go_wp2
 obtain ⟨W1, hW1⟩ : ∃ W1, w.alloc (.cells #[.pointer none, .slice none 0 0] 122) = W1 := ⟨_, rfl⟩; simp only [hW1] at HF HB0 ⊢; clear hW1
 go_loopw [7] (fun i wr => ∃ k : Nat, k ≤ s.size ∧ i = .int .i64 (k : Int) ∧ Lib.IsBuilder 122 5 B B (Lib.byteCells (bareL (s.data.toList.take k))) wr ∧ Below B w wr) (fun i _ => s.size - (intOf i).toNat)
 case atStart => exact ⟨0, Nat.zero_le _, rfl, HF.out, HB0.out⟩
 case round =>
  obtain ⟨k, hk, rfl, hi, hb⟩ := hrel; have HI := Zh hi; have HBB := Zh hb; have HBs := Zh (show B ≤ wr.heap.size by have := hb.size; omega); have HLk := Zh (show (bareL (s.data.toList.take k)).length ≤ 1000000 by have h1 := bare_le (s.data.toList.take k); rw [List.length_take] at h1; omega); clear hi hb
  by_cases hlt : k < s.size
  ·
   have HSN := Zh (bare_snoc s k hlt); obtain ⟨c, hc⟩ : ∃ c, s[k] = c := ⟨_, rfl⟩; rw [hc] at HSN; have hc8 : (c.toNat : Int) ≤ 255 := by have := c.toNat_lt; omega
   have hi1 := HIB.out c; have e8 : (c.toNat : Int).toNat.toUInt8 = c := by simp
   rw [e8] at hi1; obtain ⟨o, ho⟩ : ∃ o, bareL (s.data.toList.take k) = o := ⟨_, rfl⟩; rw [ho] at HI HSN HLk; clear ho e8
   rcases betw_index c with ⟨b1, j, hj, b2⟩ | ⟨b1, b2⟩
   ·
    rw [b2] at hi1; have HI1 := Zh hi1; have HE := Zh (show bareL (s.data.toList.take (k + 1)) = o by rw [HSN.out, show bareL [c] = [] by simp [bareL, b1], List.append_nil]); have hj' : ¬ j < 0 := by omega
    clear hi1 b2 b1
    go_wp2_with (go_at_call 77; refine (HI1.out _).mono ?_; rintro e w1 ⟨rfl, hw⟩; replace hw := hw.symm; subst hw)
    exact ⟨⟨k + 1, by omega, by go_num, by rw [HE.out]; exact HI.out, HBB.out⟩, by simp [intOf]; omega⟩
   ·
    rw [b2] at hi1; have HI1 := Zh hi1; have HE := Zh (show bareL (s.data.toList.take (k + 1)) = o ++ [c] by rw [HSN.out, show bareL [c] = [c] by simp [bareL, b1]]); clear hi1 b2 b1
    go_wp2_with (go_at_call 77; refine (HI1.out _).mono ?_; rintro e w1 ⟨rfl, hw⟩; replace hw := hw.symm; subst hw)
    go_wp2_with (go_at_call 118; refine (put_any B B _ _ _ HI.out (by rw [bc_len]; have := HLk.out; omega) HBs.out).mono ?_)
    rintro e w2 ⟨rfl, h1, h2⟩; have HI2 := Zh (show Lib.IsBuilder 122 5 B B (Lib.byteCells (o ++ [c])) w2 by rw [bc_app]; exact h1); have HB2 := Zh (HBB.out.trans h2); clear h1 h2
    go_wp2
    exact ⟨⟨k + 1, by omega, by go_num, by rw [HE.out]; exact HI2.out, HB2.out⟩, by simp [intOf]; omega⟩
  ·
   have hks : k = s.size := by omega
   subst hks; have HP2 := Zh (show r = ⟨(bareL (s.data.toList.take s.size)).toArray⟩ by rw [HP.out, List.take_of_length_le (by simp)]); obtain ⟨o, ho⟩ : ∃ o, bareL (s.data.toList.take s.size) = o := ⟨_, rfl⟩; rw [ho] at HI HP2; clear ho
   go_wp2_with (go_at_call 119; refine (Tryz.Builder_String_any B B _ _ HI.out HBs.out).mono ?_)
   rintro e w2 ⟨rfl, h2⟩; have HB2 := Zh (HBB.out.trans h2); clear h2
   go_wp2
   go_ret
   exact ⟨by rw [HP2.out]; rfl, (by rw [hB]; exact HB2.out)⟩
theorem tcanon_any (s : ByteArray) (hs : s.size ≤ 1000000) (w : World) (hT : Tabs w) : Calls Tryz.prog 141 #[.string s] w fun e w' => e = .returned (.tuple #[.string (telS s).1, .int .i64 (telS s).2]) ∧ Below w.heap.size w w' := by
 have hC := clean_any s hs w hT; have htz : ((cleanS s).1.size : Int) ≤ 1000000 := by
  unfold cleanS cleanOf
  have h1 := sq_len s.data.toList; have h2 : (squeezeS s).size ≤ 1000000 := by rw [squeezeS_sq]; show (sq s.data.toList).toArray.size ≤ _; simp at h1 ⊢; omega
  repeat' split
  all_goals first | (show (((squeezeS s).size : Nat) : Int) ≤ 1000000; omega) | (show ((0 : Nat) : Int) ≤ 1000000; omega)
 obtain ⟨r, hr⟩ : ∃ r, telS s = r := ⟨_, rfl⟩; rw [hr]; have hrr : r = telOf (cleanS s).1 (cleanS s).2 := by rw [← hr]; rfl
 clear hr; obtain ⟨⟨t, k⟩, ht⟩ : ∃ t, cleanS s = t := ⟨_, rfl⟩; rw [ht] at hC htz hrr; simp only at hC htz hrr; have HC := Zh hC; have HR := Zh hrr; have HBa := Zh (bare_any t (by omega)); have HIs := Zh (fun w => is_any ⟨(bareL t.data.toList).toArray⟩ (by have := bare_le t.data.toList; show (bareL t.data.toList).toArray.size ≤ _; simp at this ⊢; omega) w); clear hC ht hrr; obtain ⟨u, hu⟩ : ∃ u, bareL t.data.toList = u := ⟨_, rfl⟩; have HIu := HIs.out
 unfold telOf at HR
 rw [hu] at HBa HIu HR; rw [tbs_list] at HIu; obtain ⟨U, hU⟩ : ∃ U : ByteArray, (⟨u.toArray⟩ : ByteArray) = U := ⟨_, rfl⟩; rw [hU] at HBa HIu HR; have HI2 := Zh HIu; clear HIs HIu hu hU
 by_cases hk : k = 0
 ·
  subst hk
  cases hb : telB u with
  | true =>
   rw [hb] at HI2; have H0 := Zh (show r = (U, 0) by rw [HR.out, if_pos rfl, if_pos hb])
   go_enter Tryz.func141, Tryz.ntmps141
   go_wp2_with (go_at_call 143; refine (HC.out).mono ?_)
   rintro e w1 rfl h1; have HB1 := Zh h1; clear h1
   go_wp2_with (go_at_call 160; refine (HBa.out _).mono ?_)
   rintro e w2 ⟨rfl, h2⟩; have HB2 := Zh (HB1.out.trans (h2.mono HB1.out.size)); clear h2
   go_wp2_with (go_at_call 161; refine (HI2.out _).mono ?_; rintro e w3 ⟨rfl, hw⟩; replace hw := hw.symm; subst hw)
   go_ret2
   exact ⟨by rw [H0.out]; rfl, HB2.out⟩
  | false =>
   rw [hb] at HI2; have H0 := Zh (show r = (⟨#[]⟩, 1) by rw [HR.out, if_pos rfl, if_neg (by rw [hb]; decide)])
   go_enter Tryz.func141, Tryz.ntmps141
   go_wp2_with (go_at_call 143; refine (HC.out).mono ?_)
   rintro e w1 rfl h1; have HB1 := Zh h1; clear h1
   go_wp2_with (go_at_call 160; refine (HBa.out _).mono ?_)
   rintro e w2 ⟨rfl, h2⟩; have HB2 := Zh (HB1.out.trans (h2.mono HB1.out.size)); clear h2
   go_wp2_with (go_at_call 161; refine (HI2.out _).mono ?_; rintro e w3 ⟨rfl, hw⟩; replace hw := hw.symm; subst hw)
   go_ret2
   exact ⟨by rw [H0.out]; rfl, HB2.out⟩
 ·
  have hk' : (k != 0) = true := by simpa using hk
  have H0 := Zh (show r = (⟨#[]⟩, k) by rw [HR.out, if_neg hk]); clear hk
  go_enter Tryz.func141, Tryz.ntmps141
  go_wp2_with (go_at_call 143; refine (HC.out).mono ?_)
  rintro e w1 ⟨rfl, h1⟩; have HB1 := Zh h1; clear h1
  go_wp2
  go_ret2
  exact ⟨by rw [H0.out]; rfl, HB1.out⟩
end Go.Proofs.YtphijnkiiokieaaGreatDoor
namespace Go.Proofs.YtphijnkiiokieaaGreatDoor
open Go.RowKit
theorem fold_any (s : ByteArray) (hs : s.size ≤ 1000000) (w : World) : Calls Tryz.prog 163 #[.string s] w fun e w' => e = .returned (.string (lowS s)) ∧ Below w.heap.size w w' := by
 obtain ⟨cap, hcap⟩ : ∃ cap, grownCap w s.size 0 5 = cap := ⟨_, rfl⟩; have hge : s.size ≤ cap := by rw [← hcap]; exact grownCap_ge _ _ _ _
 have kc := run_bytes_of_string (P := Tryz.prog) w 9 27 5 s Tryz.underlying9 Tryz.underlying27 Tryz.underlying5; rw [hcap] at kc; have HR := Zh (row_str w.drew s cap hge w.heap.size rfl); have HB0 : Hid (Below w.heap.size w (w.drew.alloc (.cells (bytesRow s cap) 5 ((bytesRow s cap).size, (bytesRow s cap).size + 1)))) := Zh (((Below.refl _ _).drew).alloc (Nat.le_refl _) _); obtain ⟨W1, hW1⟩ : ∃ W1, w.drew.alloc (.cells (bytesRow s cap) 5 ((bytesRow s cap).size, (bytesRow s cap).size + 1)) = W1 := ⟨_, rfl⟩; rw [hW1] at kc HR HB0; clear hW1 hcap; have hcapI : (s.size : Int) ≤ (cap : Int) := by omega
 go_enter Tryz.func163, Tryz.ntmps163
 go_wp2
 go_loopw [10] (fun i wr => ∃ k : Nat, k ≤ s.size ∧ i = .int .i64 (k : Int) ∧ Row wr w.heap.size cap (part s.data.toList k) ∧ Below w.heap.size w wr) (fun i _ => s.size - (intOf i).toNat)
 case atStart => exact ⟨0, Nat.zero_le _, rfl, by unfold part lowL; simpa using HR.out, HB0.out⟩
 case round =>
  obtain ⟨k, hk, rfl, hr, hb⟩ := hrel; have HRR := Zh hr; have HBB := Zh hb; clear hr hb
  by_cases hlt : k < s.size
  ·
   have hkl : k < s.data.toList.length := by simpa using hlt
   obtain ⟨cc, cf⟩ := HRR.out.cell (part_at _ _ hkl); obtain ⟨c, hc⟩ : ∃ c, s.data.toList[k] = c := ⟨_, rfl⟩; rw [hc] at cc; have hc8 : (c.toNat : Int) ≤ 255 := by have := c.toNat_lt; omega
   have HC := Zh hc; clear hc
   by_cases u1 : 65 ≤ (c.toNat : Int)
   ·
    by_cases u2 : (c.toNat : Int) ≤ 90
    ·
     have HS := Zh (show Row (wr.setCell ⟨w.heap.size, k, none⟩ (.int .u8 ((c.toNat : Int) - 65 + 97))) w.heap.size cap (part s.data.toList (k + 1)) by
      have h := HRR.out.set k (low s.data.toList[k]); rw [part_set _ _ hkl, HC.out] at h; have e : ((low c).toNat : Int) = (c.toNat : Int) - 65 + 97 := by
       unfold low; rw [if_pos ⟨u1, u2⟩, UInt8.toNat_ofNat']; omega
      rwa [e] at h)
     go_wp2
     exact ⟨⟨k + 1, by omega, by go_num, HS.out, HBB.out.setCell (p := ⟨w.heap.size, k, none⟩) (Nat.le_refl _) _⟩, by simp [intOf]; omega⟩
    ·
     have u3 : decide ((c.toNat : Int) ≤ 90) = false := by simp; omega
     have HS := Zh (part_same _ _ hkl (by rw [HC.out]; unfold low; rw [if_neg (by omega)]))
     go_wp2
     exact ⟨⟨k + 1, by omega, by go_num, by rw [HS.out]; exact HRR.out, HBB.out⟩, by simp [intOf]; omega⟩
   ·
    have u3 : decide (65 ≤ (c.toNat : Int)) = false := by simp; omega
    have HS := Zh (part_same _ _ hkl (by rw [HC.out]; unfold low; rw [if_neg (by omega)]))
    go_wp2
    exact ⟨⟨k + 1, by omega, by go_num, by rw [HS.out]; exact HRR.out, HBB.out⟩, by simp [intOf]; omega⟩
  ·
   have hks : k = s.size := by omega
   subst hks; have hcv := row_conv HRR.out cap; have e : part s.data.toList s.size = lowL s.data.toList := by unfold part lowL; rw [List.take_of_length_le (by simp), List.drop_of_length_le (by simp)]; simp
   rw [part_len, ← bs_size, e] at hcv
   go_wp2
   go_ret
   exact ⟨rfl, HBB.out⟩
end Go.Proofs.YtphijnkiiokieaaGreatDoor
namespace Go.Proofs.YtphijnkiiokieaaGreatDoor
open Go.RowKit
open Go.Lib hiding intOf
def capB (c : UInt8) : Bool := decide (65 ≤ (c.toNat : Int)) && decide ((c.toNat : Int) ≤ 90)
def lowB (c : UInt8) : Bool := decide (97 ≤ (c.toNat : Int)) && decide ((c.toNat : Int) ≤ 122)
def numB (c : UInt8) : Bool := decide (48 ≤ (c.toNat : Int)) && decide ((c.toNat : Int) ≤ 57)
def sodB (c : UInt8) : Bool := lowB c || numB c
def dotC (c : UInt8) : Bool := c == 46 || c == 95 || c == 43 || c == 45
def locC (c : UInt8) : Bool := capB c || sodB c || dotC c
def labC (c : UInt8) : Bool := sodB c || (c.toNat : Int) == 45
def adj : List UInt8 → Bool
 | [] => false
 | c :: t => (c == 46 && t.head? == some 46) || adj t
def localB (l : List UInt8) : Bool := decide (1 ≤ (l.length : Int)) && decide ((l.length : Int) ≤ 32) && !adj ([46] ++ l ++ [46]) && l.all locC
def labelB (l : List UInt8) : Bool := decide (1 ≤ (l.length : Int)) && decide ((l.length : Int) ≤ 20) && !(l.getD 0 0 == 45) && !(l.getD (l.length - 1) 0 == 45) && l.all labC
def splitL : List UInt8 → List (List UInt8)
 | [] => [[]]
 | c :: t => if c = 46 then [] :: splitL t else match splitL t with
  | [] => [[c]]
  | h :: r => (c :: h) :: r
def domB (l : List UInt8) : Bool := decide (2 ≤ ((splitL l).length : Int)) && (splitL l).all labelB
def mailB (l : List UInt8) : Bool := (cut l [64]).2.2 && decide ((l.length : Int) ≤ 64) && localB (cut l [64]).1 && domB (cut l [64]).2.1
def atN (t : ByteArray) : Nat := (lastIndexByte t 64 + 1).toNat
def lowAt (t : ByteArray) : ByteArray := t.extract 0 (atN t) ++ lowS (t.extract (atN t) t.size)
def mailOf (t : ByteArray) (k : Int) : ByteArray × Int := if k = 0 then (if mailB (lowAt t).data.toList = true then (lowAt t, 0) else (⟨#[]⟩, 1)) else (⟨#[]⟩, k)
def mailS (s : ByteArray) : ByteArray × Int := mailOf (cleanS s).1 (cleanS s).2
theorem index_has (a b : List UInt8) (c : UInt8) (h : c ∉ a) : index (a ++ c :: b) [c] = a.length := by
 induction a with
 | nil => simp [index, List.isPrefixOf]
 | cons x t ih =>
  have hx : ¬ c = x := fun e => h (by simp [e])
  have ih := ih (fun e => h (by simp [e])); rw [List.cons_append]
  unfold index
  rw [if_neg (by simpa [List.isPrefixOf] using hx), ih, if_neg (by rw [beq_iff_eq]; omega)]
  simp
theorem index_not (l : List UInt8) (c : UInt8) (h : c ∉ l) : index l [c] = -1 := by
 induction l with
 | nil => rfl
 | cons x t ih =>
  have hx : ¬ c = x := fun e => h (by simp [e])
  have ih := ih (fun e => h (by simp [e]))
  unfold index
  rw [if_neg (by simpa [List.isPrefixOf] using hx), ih]; rfl
theorem cut_has (a b : List UInt8) (c : UInt8) (h : c ∉ a) : cut (a ++ c :: b) [c] = (a, b, true) := by
 unfold cut
 rw [index_has a b c h, if_pos (by omega)]
 simp
theorem cut_not (l : List UInt8) (c : UInt8) (h : c ∉ l) : cut l [c] = (l, [], false) := by
 unfold cut
 rw [index_not l c h, if_neg (by decide)]
theorem first_at (l : List UInt8) (c : UInt8) (h : c ∈ l) : ∃ a b, l = a ++ c :: b ∧ c ∉ a := by
 induction l with
 | nil => cases h
 | cons x t ih =>
  by_cases hx : x = c
  ·
   exact ⟨[], t, by rw [hx]; rfl, by simp⟩
  ·
   have : c ∈ t := by rcases List.mem_cons.1 h with e | e; exact absurd e.symm hx; exact e
   obtain ⟨a, b, e, ha⟩ := ih this
   exact ⟨x :: a, b, by rw [e]; rfl, by simp only [List.mem_cons, not_or]; exact ⟨fun e => hx e.symm, ha⟩⟩
theorem adj_cons (c : UInt8) (t : List UInt8) : adj (c :: t) = ((c == 46 && t.head? == some 46) || adj t) := rfl
theorem contains_adj (l : List UInt8) : contains l [46, 46] = adj l := by
 unfold contains
 induction l with
 | nil => rfl
 | cons c t ih =>
  rw [adj_cons, ← ih, show index (c :: t) [46, 46] = if [46, 46].isPrefixOf (c :: t) then 0 else if index t [46, 46] == -1 then -1 else index t [46, 46] + 1 from rfl]; have hge := index_ge t [46, 46]; have hp : [46, 46].isPrefixOf (c :: t) = (c == 46 && t.head? == some 46) := by
   cases t with
   | nil => simp [List.isPrefixOf]
   | cons d r => simp only [List.isPrefixOf, Bool.and_true, List.head?_cons]; rw [Bool.beq_comm (a := 46) (b := c)]; congr 1; rw [Bool.beq_comm]; simp
  rw [hp]
  by_cases h1 : (c == 46 && t.head? == some 46) = true
  ·
   rw [if_pos h1, h1]; rfl
  ·
   have h1' : (c == 46 && t.head? == some 46) = false := by simpa using h1
   rw [if_neg h1, h1', Bool.false_or]
   by_cases h2 : (index t [46, 46] == -1) = true
   ·
    rw [if_pos h2]; have := beq_iff_eq.1 h2; rw [this]
   ·
    rw [if_neg h2]; have h3 : index t [46, 46] ≠ -1 := fun e => h2 (beq_iff_eq.2 e)
    rw [decide_eq_true (by omega), decide_eq_true (by omega)]
theorem split_cons (c : UInt8) (t : List UInt8) : splitL (c :: t) = if c = 46 then [] :: splitL t else match splitL t with
  | [] => [[c]]
  | h :: r => (c :: h) :: r := rfl
theorem split_ne (l : List UInt8) : splitL l ≠ [] := by
 cases l with
 | nil => simp [splitL]
 | cons c t => unfold splitL; split; simp; split <;> simp
theorem split_app (a b : List UInt8) (h : (46 : UInt8) ∉ a) : splitL (a ++ 46 :: b) = a :: splitL b := by
 induction a with
 | nil => simp [splitL]
 | cons x t ih =>
  have hx : ¬ x = 46 := fun e => h (by simp [e])
  rw [List.cons_append, split_cons, if_neg hx, ih (fun e => h (by simp [e]))]
theorem split_pre (a b : List UInt8) (h : (46 : UInt8) ∉ a) : ∃ hd r, splitL b = hd :: r ∧ splitL (a ++ b) = (a ++ hd) :: r := by
 induction a with
 | nil =>
  cases hb : splitL b with
  | nil => exact absurd hb (split_ne b)
  | cons hd r => exact ⟨hd, r, rfl, hb⟩
 | cons x t ih =>
  have hx : ¬ x = 46 := fun e => h (by simp [e])
  obtain ⟨hd, r, e1, e2⟩ := ih (fun e => h (by simp [e])); refine ⟨hd, r, e1, ?_⟩; rw [List.cons_append, split_cons, if_neg hx, e2]
  rfl
theorem split_one (a : List UInt8) (h : (46 : UInt8) ∉ a) : splitL a = [a] := by
 obtain ⟨hd, r, e1, e2⟩ := split_pre a [] h; rw [List.append_nil] at e2; rw [show splitL [] = [[]] from rfl] at e1
 cases e1
 rw [e2, List.append_nil]
theorem splitB_list : ∀ (n : Nat) (s : ByteArray), s.size ≤ n → (splitB ⟨#[46]⟩ 0 (countB s ⟨#[46]⟩) s).map (fun b => b.data.toList) = splitL s.data.toList := by
 intro n
 induction n with
 | zero =>
  intro s hs; have hn : s.data.toList = [] := List.eq_nil_of_length_eq_zero (by simpa using Nat.le_zero.1 hs); have hi : indexB s ⟨#[46]⟩ = -1 := by show index s.data.toList [46] = -1; rw [hn]; rfl
  rw [countB_miss s _ hi, splitB_zero, hn]
  simp [hn, splitL]
 | succ n ih =>
  intro s hs
  by_cases h : (46 : UInt8) ∈ s.data.toList
  ·
   obtain ⟨a, b, e, ha⟩ := first_at _ _ h; have hi : indexB s ⟨#[46]⟩ = (a.length : Int) := by show index s.data.toList [46] = _; rw [e]; exact index_has a b 46 ha
   have hsz : s.size = a.length + 1 + b.length := by
    have : s.data.toList.length = s.size := by simp
    rw [e] at this; simp at this; omega
   have hx : (s.extract (a.length + 1) s.size).data.toList = b := by
    have h1 : (s.extract (a.length + 1) s.size).data.toList = s.data.toList.drop (a.length + 1) := by simp [List.take_of_length_le]
    rw [h1, e, show a ++ 46 :: b = (a ++ [46]) ++ b by simp]
    exact List.drop_left' (by simp)
   have hx0 : (s.extract 0 a.length).data.toList = a := by
    have h1 : (s.extract 0 a.length).data.toList = s.data.toList.take a.length := by simp
    rw [h1, e]; simp
   have hc := countB_hit s ⟨#[46]⟩ a.length (Nat.le_refl _) hi; rw [hc, Nat.add_comm]
   unfold splitB
   rw [if_neg (by rw [hi]; simp), hi]; have hz : (⟨#[46]⟩ : ByteArray).size = 1 := rfl; rw [Int.toNat_natCast, hz, Nat.add_zero, List.map_cons, ih _ (by rw [ByteArray.size_extract]; omega), hx0, hx, e, split_app a b ha]
  ·
   have hi : indexB s ⟨#[46]⟩ = -1 := index_not _ _ h; rw [countB_miss s _ hi, splitB_zero, split_one _ h]
   rfl
end Go.Proofs.YtphijnkiiokieaaGreatDoor
