/- Texts of one proof, joined. -/
import Derived.Test.YtphijnkiiokieaaGreatDoorZap
set_option linter.unusedVariables false
set_option linter.unusedSimpArgs false
set_option maxRecDepth 100000
set_option maxHeartbeats 80000000
namespace Go.Proofs.YtphijnkiiokieaaGreatDoor
open Go.RowKit
open Go.Lib hiding intOf
structure SzO (o : Opn) : Prop where
 u : o.u.size ≤ 1000000
 c : o.c.size ≤ 1000000
section
variable {w : World} {A : Option Addr} {len cap b off : Nat} {xs : List Opn}
theorem cardOfDel_any (h : Ops w A len cap b off xs) (hn : len ≤ 1000000) : Calls Tryz.prog 44 #[.slice A len cap] w fun e w' => e = .returned (.bool (!xs.all okD)) ∧ Below w.heap.size w w' := by
 have HI := Zh h; have hlen := h.hlen; have hlc := h.le; have HB0 := Zh (Below.refl w.heap.size w); obtain ⟨r, hr⟩ : ∃ r, (!xs.all okD) = r := ⟨_, rfl⟩; have HR := Zh (show r = !xs.all okD from hr.symm); rw [hr]; clear hr h; have hnI : (len : Int) ≤ 1000000 := by omega
 go_enter Tryz.func44, Tryz.ntmps44
 go_wp2
 go_loopw [7] (fun i wr => ∃ q : Nat, q ≤ len ∧ i = .int .i64 (q : Int) ∧ (xs.take q).all okD = true ∧ Below w.heap.size w wr) (fun i _ => len - (intOf i).toNat)
 case atStart => exact ⟨0, Nat.zero_le _, rfl, by simp, HB0.out⟩
 case round =>
  obtain ⟨q, hq, rfl, hall, hB⟩ := hrel; have HBR := Zh hB; have HAL := Zh hall; clear hB hall
  by_cases hql : q < len
  ·
   obtain ⟨o, ho⟩ : ∃ o, xs[q]? = some o := ⟨xs[q]'(by rw [HI.out.hlen]; exact hql), List.getElem?_eq_getElem _⟩; obtain ⟨rfl, hbl⟩ := HI.out.addr (by omega); obtain ⟨c0, c1, c2, c3, c4⟩ := (HI.out.below HBR.out (fun _ => hbl)).cell q o ho; have HSN := Zh (allO_snoc okD xs q o ho); have HMI := Zh (allO_miss okD xs q o ho); have hqI : (q : Int) < (len : Int) := by omega
   obtain ⟨od, ou, oc, ok, ov⟩ := o; simp only at c0 c1 c2 c3 c4; clear ho
   cases od with
   | false =>
    have HN := Zh (show (xs.take (q + 1)).all okD = true by rw [HSN.out, HAL.out]; rfl); clear HSN HMI
    go_wp2
    go_roundw
    case rel => exact ⟨q + 1, by omega, by go_num, HN.out, HBR.out.alloc HBR.out.size _⟩
    case measure => simp [intOf]; omega
   | true =>
    cases hz : oc.toList.isEmpty with
    | true =>
     have HN := Zh (show (xs.take (q + 1)).all okD = true by rw [HSN.out, HAL.out]; unfold okD nz; simp only [hz]; rfl); clear HSN HMI
     go_wp2
     go_roundw
     case rel => exact ⟨q + 1, by omega, by go_num, HN.out, HBR.out.alloc HBR.out.size _⟩
     case measure => simp [intOf]; omega
    | false =>
     have H0 := Zh (show r = true by rw [HR.out, HMI.out (by unfold okD nz; simp only [hz]; rfl)]; rfl); clear HSN HMI
     go_wp2
     go_ret
     exact ⟨by rw [H0.out]; rfl, HBR.out.alloc HBR.out.size _⟩
  ·
   obtain rfl : q = len := by omega
   have H0 := Zh (show r = false by rw [HR.out, allO_full okD xs _ (by rw [HI.out.hlen]; omega) HAL.out]; rfl)
   go_wp2
   go_ret
   exact ⟨by rw [H0.out]; rfl, HBR.out⟩
theorem named_any (h : Ops w A len cap b off xs) (hn : len ≤ 1000000) (hz : ∀ o ∈ xs, SzO o) (k : Int) (t co u c : ByteArray) (ck cv : Int) (tok mo ti : Int) (hs1 : t.size ≤ 1000000) (hs2 : co.size ≤ 1000000) (hs3 : u.size ≤ 1000000) (H : Int) (x1 x2 x3 : Bool) (hx1 : (bits .and .i64 H 1 != 0) = x1) (hx2 : (bits .and .i64 H 2 != 0) = x2) (hx3 : (bits .and .i64 H 4 != 0) = x3) (hx : x1 = true ∧ x2 = false ∧ x3 = false ∨ x1 = false ∧ (x3 = true → x2 = true)) :
  Calls Tryz.prog 45 #[.agg #[.int .i64 k, .string t, .string co, .string u, .string c, .int .i64 ck, .int .i64 cv, .slice A len cap, .int .i64 tok, .int .i64 mo, .int .i64 ti], .int .i64 H] w fun e w' => e = .returned (.bool ((!x1 || Id.nameB t.data.toList) && (!x2 || Id.nameB co.data.toList) && (!x3 || Id.uidB u.data.toList) && xs.all okU)) ∧ Below w.heap.size w w' := by
 have HX0 := Zh ((Bxs.start w).new 26 #[.int .i64 k, .string t, .string co, .string u, .string c, .int .i64 ck, .int .i64 cv, .slice A len cap, .int .i64 tok, .int .i64 mo, .int .i64 ti]); have HI := Zh h; have hlen := h.hlen; have hlc := h.le; have HB0 := Zh HX0.out.bel; have HZ := Zh hz; have M1 := Zh (fun W => Id.name_any t W (by unfold maxLen; omega)); have M2 := Zh (fun W => Id.name_any co W (by unfold maxLen; omega)); have M3 := Zh (fun W => Id.uid_any u W (by unfold maxLen; omega)); obtain ⟨n1, hn1⟩ : ∃ r, Id.nameB t.data.toList = r := ⟨_, rfl⟩; obtain ⟨n2, hn2⟩ : ∃ r, Id.nameB co.data.toList = r := ⟨_, rfl⟩; obtain ⟨n3, hn3⟩ : ∃ r, Id.uidB u.data.toList = r := ⟨_, rfl⟩; rw [hn1] at M1 ⊢; rw [hn2] at M2 ⊢; rw [hn3] at M3 ⊢; obtain ⟨r, hr⟩ : ∃ r, ((!x1 || n1) && (!x2 || n2) && (!x3 || n3) && xs.all okU) = r := ⟨_, rfl⟩; have HR0 := Zh hr.symm; rw [hr]; clear hr h hz hn1 hn2 hn3; have hnI : (len : Int) ≤ 1000000 := by omega
 have ways : (x1 = true ∧ x2 = false ∧ x3 = false ∧ n1 = true) ∨ (x1 = false ∧ x2 = true ∧ x3 = false ∧ n2 = true) ∨ (x1 = false ∧ x2 = true ∧ x3 = true ∧ n2 = true ∧ n3 = true) ∨ (x1 = false ∧ x2 = false ∧ x3 = false) ∨ (x1 = true ∧ n1 = false) ∨ (x1 = false ∧ x2 = true ∧ n2 = false) ∨ (x1 = false ∧ x2 = true ∧ x3 = true ∧ n2 = true ∧ n3 = false) := by
  cases x1 <;> cases x2 <;> cases x3 <;> cases n1 <;> cases n2 <;> cases n3 <;> simp at hx ⊢
 rcases ways with ⟨rfl, rfl, rfl, rfl⟩ | ⟨rfl, rfl, rfl, rfl⟩ | ⟨rfl, rfl, rfl, rfl, rfl⟩ | ⟨rfl, rfl, rfl⟩ | ⟨rfl, rfl⟩ | ⟨rfl, rfl, rfl⟩ | ⟨rfl, rfl, rfl, rfl, rfl⟩
 ·
  have HR := Zh (show r = xs.all okU by rw [HR0.out]; simp); clear HR0
  go_enter Tryz.func45, Tryz.ntmps45
  go_wp2_with fail
  refine (M1.out _).mono ?_; rintro _ x5 ⟨rfl, hw5⟩; subst hw5
  go_wp2
  go_loopw [41] (fun i wr => ∃ q : Nat, q ≤ len ∧ i = .int .i64 (q : Int) ∧ (xs.take q).all okU = true ∧ Below w.heap.size w wr) (fun i _ => len - (intOf i).toNat)
  case atStart => exact ⟨0, Nat.zero_le _, rfl, by simp, HB0.out⟩
  case round =>
   obtain ⟨q, hq, rfl, hall, hB⟩ := hrel; have HBR := Zh hB; have HAL := Zh hall; clear hB hall
   by_cases hql : q < len
   ·
    obtain ⟨o, ho⟩ : ∃ o, xs[q]? = some o := ⟨xs[q]'(by rw [HI.out.hlen]; exact hql), List.getElem?_eq_getElem _⟩; obtain ⟨rfl, hbl⟩ := HI.out.addr (by omega); obtain ⟨c0, c1, c2, c3, c4⟩ := (HI.out.below HBR.out (fun _ => hbl)).cell q o ho; have HSN := Zh (allO_snoc okU xs q o ho); have HMI := Zh (allO_miss okU xs q o ho); have hqI : (q : Int) < (len : Int) := by omega
    have HU := Zh (fun W => Id.uid_any o.u W (by unfold maxLen; have := (HZ.out o (List.mem_of_getElem? ho)).u; omega)); obtain ⟨od, ou, oc, ok, ov⟩ := o; simp only at c0 c1 c2 c3 c4 HU; clear ho; obtain ⟨nu, hnu⟩ : ∃ r, Id.uidB ou.data.toList = r := ⟨_, rfl⟩; have HNU := Zh (show okU ⟨od, ou, oc, ok, ov⟩ = nu from hnu); rw [hnu] at HU; clear hnu
    cases nu with
    | true =>
     have HN := Zh (show (xs.take (q + 1)).all okU = true by rw [HSN.out, HAL.out, HNU.out]; rfl); clear HSN HMI
     go_wp2_with fail
     refine (HU.out _).mono ?_; rintro _ x5 ⟨rfl, hw5⟩; subst hw5
     go_wp2
     go_roundw
     case rel => exact ⟨q + 1, by omega, by go_num, HN.out, HBR.out.alloc HBR.out.size _⟩
     case measure => simp [intOf]; omega
    | false =>
     have H0 := Zh (show r = false by rw [HR.out, HMI.out HNU.out]); clear HSN HMI
     go_wp2_with fail
     refine (HU.out _).mono ?_; rintro _ x5 ⟨rfl, hw5⟩; subst hw5
     go_wp2
     go_ret
     exact ⟨by rw [H0.out]; rfl, HBR.out.alloc HBR.out.size _⟩
   ·
    obtain rfl : q = len := by omega
    have H0 := Zh (show r = true by rw [HR.out, allO_full okU xs _ (by rw [HI.out.hlen]; omega) HAL.out])
    go_wp2
    go_ret
    exact ⟨by rw [H0.out]; rfl, HBR.out⟩
 ·
  have HR := Zh (show r = xs.all okU by rw [HR0.out]; simp); clear HR0
  go_enter Tryz.func45, Tryz.ntmps45
  go_wp2_with fail
  refine (M2.out _).mono ?_; rintro _ x5 ⟨rfl, hw5⟩; subst hw5
  go_wp2
  go_loopw [41] (fun i wr => ∃ q : Nat, q ≤ len ∧ i = .int .i64 (q : Int) ∧ (xs.take q).all okU = true ∧ Below w.heap.size w wr) (fun i _ => len - (intOf i).toNat)
  case atStart => exact ⟨0, Nat.zero_le _, rfl, by simp, HB0.out⟩
  case round =>
   obtain ⟨q, hq, rfl, hall, hB⟩ := hrel; have HBR := Zh hB; have HAL := Zh hall; clear hB hall
   by_cases hql : q < len
   ·
    obtain ⟨o, ho⟩ : ∃ o, xs[q]? = some o := ⟨xs[q]'(by rw [HI.out.hlen]; exact hql), List.getElem?_eq_getElem _⟩; obtain ⟨rfl, hbl⟩ := HI.out.addr (by omega); obtain ⟨c0, c1, c2, c3, c4⟩ := (HI.out.below HBR.out (fun _ => hbl)).cell q o ho; have HSN := Zh (allO_snoc okU xs q o ho); have HMI := Zh (allO_miss okU xs q o ho); have hqI : (q : Int) < (len : Int) := by omega
    have HU := Zh (fun W => Id.uid_any o.u W (by unfold maxLen; have := (HZ.out o (List.mem_of_getElem? ho)).u; omega)); obtain ⟨od, ou, oc, ok, ov⟩ := o; simp only at c0 c1 c2 c3 c4 HU; clear ho; obtain ⟨nu, hnu⟩ : ∃ r, Id.uidB ou.data.toList = r := ⟨_, rfl⟩; have HNU := Zh (show okU ⟨od, ou, oc, ok, ov⟩ = nu from hnu); rw [hnu] at HU; clear hnu
    cases nu with
    | true =>
     have HN := Zh (show (xs.take (q + 1)).all okU = true by rw [HSN.out, HAL.out, HNU.out]; rfl); clear HSN HMI
     go_wp2_with fail
     refine (HU.out _).mono ?_; rintro _ x5 ⟨rfl, hw5⟩; subst hw5
     go_wp2
     go_roundw
     case rel => exact ⟨q + 1, by omega, by go_num, HN.out, HBR.out.alloc HBR.out.size _⟩
     case measure => simp [intOf]; omega
    | false =>
     have H0 := Zh (show r = false by rw [HR.out, HMI.out HNU.out]); clear HSN HMI
     go_wp2_with fail
     refine (HU.out _).mono ?_; rintro _ x5 ⟨rfl, hw5⟩; subst hw5
     go_wp2
     go_ret
     exact ⟨by rw [H0.out]; rfl, HBR.out.alloc HBR.out.size _⟩
   ·
    obtain rfl : q = len := by omega
    have H0 := Zh (show r = true by rw [HR.out, allO_full okU xs _ (by rw [HI.out.hlen]; omega) HAL.out])
    go_wp2
    go_ret
    exact ⟨by rw [H0.out]; rfl, HBR.out⟩
 ·
  have HR := Zh (show r = xs.all okU by rw [HR0.out]; simp); clear HR0
  go_enter Tryz.func45, Tryz.ntmps45
  go_wp2_with fail
  refine (M2.out _).mono ?_; rintro _ x5 ⟨rfl, hw5⟩; subst hw5
  go_wp2_with fail
  refine (M3.out _).mono ?_; rintro _ x5 ⟨rfl, hw5⟩; subst hw5
  go_wp2
  go_loopw [41] (fun i wr => ∃ q : Nat, q ≤ len ∧ i = .int .i64 (q : Int) ∧ (xs.take q).all okU = true ∧ Below w.heap.size w wr) (fun i _ => len - (intOf i).toNat)
  case atStart => exact ⟨0, Nat.zero_le _, rfl, by simp, HB0.out⟩
  case round =>
   obtain ⟨q, hq, rfl, hall, hB⟩ := hrel; have HBR := Zh hB; have HAL := Zh hall; clear hB hall
   by_cases hql : q < len
   ·
    obtain ⟨o, ho⟩ : ∃ o, xs[q]? = some o := ⟨xs[q]'(by rw [HI.out.hlen]; exact hql), List.getElem?_eq_getElem _⟩; obtain ⟨rfl, hbl⟩ := HI.out.addr (by omega); obtain ⟨c0, c1, c2, c3, c4⟩ := (HI.out.below HBR.out (fun _ => hbl)).cell q o ho; have HSN := Zh (allO_snoc okU xs q o ho); have HMI := Zh (allO_miss okU xs q o ho); have hqI : (q : Int) < (len : Int) := by omega
    have HU := Zh (fun W => Id.uid_any o.u W (by unfold maxLen; have := (HZ.out o (List.mem_of_getElem? ho)).u; omega)); obtain ⟨od, ou, oc, ok, ov⟩ := o; simp only at c0 c1 c2 c3 c4 HU; clear ho; obtain ⟨nu, hnu⟩ : ∃ r, Id.uidB ou.data.toList = r := ⟨_, rfl⟩; have HNU := Zh (show okU ⟨od, ou, oc, ok, ov⟩ = nu from hnu); rw [hnu] at HU; clear hnu
    cases nu with
    | true =>
     have HN := Zh (show (xs.take (q + 1)).all okU = true by rw [HSN.out, HAL.out, HNU.out]; rfl); clear HSN HMI
     go_wp2_with fail
     refine (HU.out _).mono ?_; rintro _ x5 ⟨rfl, hw5⟩; subst hw5
     go_wp2
     go_roundw
     case rel => exact ⟨q + 1, by omega, by go_num, HN.out, HBR.out.alloc HBR.out.size _⟩
     case measure => simp [intOf]; omega
    | false =>
     have H0 := Zh (show r = false by rw [HR.out, HMI.out HNU.out]); clear HSN HMI
     go_wp2_with fail
     refine (HU.out _).mono ?_; rintro _ x5 ⟨rfl, hw5⟩; subst hw5
     go_wp2
     go_ret
     exact ⟨by rw [H0.out]; rfl, HBR.out.alloc HBR.out.size _⟩
   ·
    obtain rfl : q = len := by omega
    have H0 := Zh (show r = true by rw [HR.out, allO_full okU xs _ (by rw [HI.out.hlen]; omega) HAL.out])
    go_wp2
    go_ret
    exact ⟨by rw [H0.out]; rfl, HBR.out⟩
 ·
  have HR := Zh (show r = xs.all okU by rw [HR0.out]; simp); clear HR0
  go_enter Tryz.func45, Tryz.ntmps45
  go_wp2
  go_loopw [41] (fun i wr => ∃ q : Nat, q ≤ len ∧ i = .int .i64 (q : Int) ∧ (xs.take q).all okU = true ∧ Below w.heap.size w wr) (fun i _ => len - (intOf i).toNat)
  case atStart => exact ⟨0, Nat.zero_le _, rfl, by simp, HB0.out⟩
  case round =>
   obtain ⟨q, hq, rfl, hall, hB⟩ := hrel; have HBR := Zh hB; have HAL := Zh hall; clear hB hall
   by_cases hql : q < len
   ·
    obtain ⟨o, ho⟩ : ∃ o, xs[q]? = some o := ⟨xs[q]'(by rw [HI.out.hlen]; exact hql), List.getElem?_eq_getElem _⟩; obtain ⟨rfl, hbl⟩ := HI.out.addr (by omega); obtain ⟨c0, c1, c2, c3, c4⟩ := (HI.out.below HBR.out (fun _ => hbl)).cell q o ho; have HSN := Zh (allO_snoc okU xs q o ho); have HMI := Zh (allO_miss okU xs q o ho); have hqI : (q : Int) < (len : Int) := by omega
    have HU := Zh (fun W => Id.uid_any o.u W (by unfold maxLen; have := (HZ.out o (List.mem_of_getElem? ho)).u; omega)); obtain ⟨od, ou, oc, ok, ov⟩ := o; simp only at c0 c1 c2 c3 c4 HU; clear ho; obtain ⟨nu, hnu⟩ : ∃ r, Id.uidB ou.data.toList = r := ⟨_, rfl⟩; have HNU := Zh (show okU ⟨od, ou, oc, ok, ov⟩ = nu from hnu); rw [hnu] at HU; clear hnu
    cases nu with
    | true =>
     have HN := Zh (show (xs.take (q + 1)).all okU = true by rw [HSN.out, HAL.out, HNU.out]; rfl); clear HSN HMI
     go_wp2_with fail
     refine (HU.out _).mono ?_; rintro _ x5 ⟨rfl, hw5⟩; subst hw5
     go_wp2
     go_roundw
     case rel => exact ⟨q + 1, by omega, by go_num, HN.out, HBR.out.alloc HBR.out.size _⟩
     case measure => simp [intOf]; omega
    | false =>
     have H0 := Zh (show r = false by rw [HR.out, HMI.out HNU.out]); clear HSN HMI
     go_wp2_with fail
     refine (HU.out _).mono ?_; rintro _ x5 ⟨rfl, hw5⟩; subst hw5
     go_wp2
     go_ret
     exact ⟨by rw [H0.out]; rfl, HBR.out.alloc HBR.out.size _⟩
   ·
    obtain rfl : q = len := by omega
    have H0 := Zh (show r = true by rw [HR.out, allO_full okU xs _ (by rw [HI.out.hlen]; omega) HAL.out])
    go_wp2
    go_ret
    exact ⟨by rw [H0.out]; rfl, HBR.out⟩
 ·
  have H0 := Zh (show r = false by rw [HR0.out]; simp); clear HR0
  go_enter Tryz.func45, Tryz.ntmps45
  go_wp2_with fail
  refine (M1.out _).mono ?_; rintro _ x5 ⟨rfl, hw5⟩; subst hw5
  go_wp2
  go_ret
  exact ⟨by rw [H0.out]; rfl, HX0.out.bel⟩
 ·
  have H0 := Zh (show r = false by rw [HR0.out]; simp); clear HR0
  go_enter Tryz.func45, Tryz.ntmps45
  go_wp2_with fail
  refine (M2.out _).mono ?_; rintro _ x5 ⟨rfl, hw5⟩; subst hw5
  go_wp2
  go_ret
  exact ⟨by rw [H0.out]; rfl, HX0.out.bel⟩
 ·
  have H0 := Zh (show r = false by rw [HR0.out]; simp); clear HR0
  go_enter Tryz.func45, Tryz.ntmps45
  go_wp2_with fail
  refine (M2.out _).mono ?_; rintro _ x5 ⟨rfl, hw5⟩; subst hw5
  go_wp2_with fail
  refine (M3.out _).mono ?_; rintro _ x5 ⟨rfl, hw5⟩; subst hw5
  go_wp2
  go_ret
  exact ⟨by rw [H0.out]; rfl, HX0.out.bel⟩
theorem formed_any (h : Ops w A len cap b off xs) (hn : len ≤ 1000000) (hz : ∀ o ∈ xs, SzO o) (hE : Env w) (k : Int) (t co u c : ByteArray) (ck cv : Int) (tok mo ti : Int) (hs4 : c.size ≤ 1000000) (H : Int) (x4 : Bool) (hx4 : (bits .and .i64 H 8 != 0) = x4) :
  Calls Tryz.prog 46 #[.agg #[.int .i64 k, .string t, .string co, .string u, .string c, .int .i64 ck, .int .i64 cv, .slice A len cap, .int .i64 tok, .int .i64 mo, .int .i64 ti], .int .i64 H] w fun e w' => e = .returned (.bool ((!x4 || isC c) && Et.mayB ck cv && xs.all okF)) ∧ Below w.heap.size w w' := by
 have HX0 := Zh ((Bxs.start w).new 26 #[.int .i64 k, .string t, .string co, .string u, .string c, .int .i64 ck, .int .i64 cv, .slice A len cap, .int .i64 tok, .int .i64 mo, .int .i64 ti]); have HI := Zh h; have hlen := h.hlen; have hlc := h.le; have HZ := Zh hz; have HE := Zh (fun W (hb : Below w.heap.size w W) => hE.on hb); have M1 := Zh (fun W hW => cis_any c hs4 W hW); have M2 := Zh (fun W => Et.may_any ck cv W); obtain ⟨n1, hn1⟩ : ∃ r, isC c = r := ⟨_, rfl⟩; obtain ⟨n2, hn2⟩ : ∃ r, Et.mayB ck cv = r := ⟨_, rfl⟩; rw [hn1] at M1 ⊢; rw [hn2] at M2 ⊢; obtain ⟨r, hr⟩ : ∃ r, ((!x4 || n1) && n2 && xs.all okF) = r := ⟨_, rfl⟩; have HR0 := Zh hr.symm; rw [hr]; clear hr h hz hn1 hn2 hE; have hnI : (len : Int) ≤ 1000000 := by omega
 have ways : (x4 = true ∧ n1 = true ∧ n2 = true) ∨ (x4 = false ∧ n2 = true) ∨ (x4 = true ∧ n1 = true ∧ n2 = false) ∨ (x4 = false ∧ n2 = false) ∨ (x4 = true ∧ n1 = false) := by
  cases x4 <;> cases n1 <;> cases n2 <;> simp
 rcases ways with ⟨rfl, rfl, rfl⟩ | ⟨rfl, rfl⟩ | ⟨rfl, rfl, rfl⟩ | ⟨rfl, rfl⟩ | ⟨rfl, rfl⟩
 ·
  have HR := Zh (show r = xs.all okF by rw [HR0.out]; simp); clear HR0
  go_enter Tryz.func46, Tryz.ntmps46
  go_wp2_with fail
  refine (M1.out _ (HE.out _ HX0.out.bel)).mono ?_; rintro _ w1 ⟨rfl, hb⟩; have HX1 := Zh (HX0.out.step hb); clear hb; obtain ⟨a1_0, a1_1, a1_2, a1_3, a1_4, a1_5, a1_6, a1_7, a1_8, a1_9, a1_10⟩ := cs11 (HX1.out.get 0 rfl); simp only [List.getElem?_toArray, List.getElem?_cons_zero, List.getElem?_cons_succ] at a1_0 a1_1 a1_2 a1_3 a1_4 a1_5 a1_6 a1_7 a1_8 a1_9 a1_10
  go_wp2_with fail
  refine (M2.out _).mono ?_; rintro _ w2 ⟨rfl, hb⟩; have HX2 := Zh (HX1.out.step hb); clear hb; obtain ⟨a2_0, a2_1, a2_2, a2_3, a2_4, a2_5, a2_6, a2_7, a2_8, a2_9, a2_10⟩ := cs11 (HX2.out.get 0 rfl); simp only [List.getElem?_toArray, List.getElem?_cons_zero, List.getElem?_cons_succ] at a2_0 a2_1 a2_2 a2_3 a2_4 a2_5 a2_6 a2_7 a2_8 a2_9 a2_10; have HB0 := Zh HX2.out.bel
  go_wp2
  go_loopw [25] (fun i wr => ∃ q : Nat, q ≤ len ∧ i = .int .i64 (q : Int) ∧ (xs.take q).all okF = true ∧ Below w.heap.size w wr) (fun i _ => len - (intOf i).toNat)
  case atStart => exact ⟨0, Nat.zero_le _, rfl, by simp, HB0.out⟩
  case round =>
   obtain ⟨q, hq, rfl, hall, hB⟩ := hrel; have HBR := Zh hB; have HAL := Zh hall; clear hB hall
   by_cases hql : q < len
   ·
    obtain ⟨o, ho⟩ : ∃ o, xs[q]? = some o := ⟨xs[q]'(by rw [HI.out.hlen]; exact hql), List.getElem?_eq_getElem _⟩; obtain ⟨rfl, hbl⟩ := HI.out.addr (by omega); obtain ⟨c0, c1, c2, c3, c4⟩ := (HI.out.below HBR.out (fun _ => hbl)).cell q o ho; have HSN := Zh (allO_snoc okF xs q o ho); have HMI := Zh (allO_miss okF xs q o ho); have hqI : (q : Int) < (len : Int) := by omega
    have HSZ := Zh (HZ.out o (List.mem_of_getElem? ho)); obtain ⟨od, ou, oc, ok, ov⟩ := o; simp only at c0 c1 c2 c3 c4; clear ho; have HC := Zh (fun W hW => cis_any oc HSZ.out.c W hW); have HM := Zh (fun W => Et.may_any ok ov W); obtain ⟨nc, hnc⟩ : ∃ r, isC oc = r := ⟨_, rfl⟩; obtain ⟨nm, hnm⟩ : ∃ r, Et.mayB ok ov = r := ⟨_, rfl⟩; have HNF := Zh (show okF ⟨od, ou, oc, ok, ov⟩ = ((od || nc) && nm) by unfold okF; simp only [hnc, hnm]); rw [hnc] at HC; rw [hnm] at HM; clear hnc hnm; have HQ0 := Zh ((Bxs.start wr).new 43 #[.bool od, .string ou, .string oc, .int .i64 ok, .int .i64 ov]); have ways : (od = true ∧ nm = true) ∨ (od = false ∧ nc = true ∧ nm = true) ∨ (od = true ∧ nm = false) ∨ (od = false ∧ nc = true ∧ nm = false) ∨ (od = false ∧ nc = false) := by
     cases od <;> cases nc <;> cases nm <;> simp
    rcases ways with ⟨rfl, rfl⟩ | ⟨rfl, rfl, rfl⟩ | ⟨rfl, rfl⟩ | ⟨rfl, rfl, rfl⟩ | ⟨rfl, rfl⟩
    ·
     have HN := Zh (show (xs.take (q + 1)).all okF = true by rw [HSN.out, HAL.out, HNF.out]; simp); clear HSN HMI HNF
     go_wp2_with fail
     refine (HM.out _).mono ?_; rintro _ y1 ⟨rfl, hb⟩; have HQ1 := Zh (HQ0.out.step hb); clear hb; have e1_0 := (HQ1.out.get 0 rfl).cell 0; have e1_1 := (HQ1.out.get 0 rfl).cell 1; have e1_2 := (HQ1.out.get 0 rfl).cell 2; have e1_3 := (HQ1.out.get 0 rfl).cell 3; have e1_4 := (HQ1.out.get 0 rfl).cell 4; simp only [List.getElem?_toArray, List.getElem?_cons_zero, List.getElem?_cons_succ] at e1_0 e1_1 e1_2 e1_3 e1_4; have HBN := Zh (HBR.out.trans (HQ1.out.bel.mono HBR.out.size))
     go_wp2
     go_roundw
     case rel => exact ⟨q + 1, by omega, by go_num, HN.out, HBN.out⟩
     case measure => simp [intOf]; omega
    ·
     have HN := Zh (show (xs.take (q + 1)).all okF = true by rw [HSN.out, HAL.out, HNF.out]; simp); clear HSN HMI HNF
     go_wp2_with fail
     refine (HC.out _ (HE.out _ (HBR.out.trans (HQ0.out.bel.mono HBR.out.size)))).mono ?_; rintro _ y1 ⟨rfl, hb⟩; have HQ1 := Zh (HQ0.out.step hb); clear hb; have e1_0 := (HQ1.out.get 0 rfl).cell 0; have e1_1 := (HQ1.out.get 0 rfl).cell 1; have e1_2 := (HQ1.out.get 0 rfl).cell 2; have e1_3 := (HQ1.out.get 0 rfl).cell 3; have e1_4 := (HQ1.out.get 0 rfl).cell 4; simp only [List.getElem?_toArray, List.getElem?_cons_zero, List.getElem?_cons_succ] at e1_0 e1_1 e1_2 e1_3 e1_4
     go_wp2_with fail
     refine (HM.out _).mono ?_; rintro _ y2 ⟨rfl, hb⟩; have HQ2 := Zh (HQ1.out.step hb); clear hb; have e2_0 := (HQ2.out.get 0 rfl).cell 0; have e2_1 := (HQ2.out.get 0 rfl).cell 1; have e2_2 := (HQ2.out.get 0 rfl).cell 2; have e2_3 := (HQ2.out.get 0 rfl).cell 3; have e2_4 := (HQ2.out.get 0 rfl).cell 4; simp only [List.getElem?_toArray, List.getElem?_cons_zero, List.getElem?_cons_succ] at e2_0 e2_1 e2_2 e2_3 e2_4; have HBN := Zh (HBR.out.trans (HQ2.out.bel.mono HBR.out.size))
     go_wp2
     go_roundw
     case rel => exact ⟨q + 1, by omega, by go_num, HN.out, HBN.out⟩
     case measure => simp [intOf]; omega
    ·
     have H0 := Zh (show r = false by rw [HR.out, HMI.out (by rw [HNF.out]; simp)]); clear HSN HMI HNF
     go_wp2_with fail
     refine (HM.out _).mono ?_; rintro _ y1 ⟨rfl, hb⟩; have HQ1 := Zh (HQ0.out.step hb); clear hb; have e1_0 := (HQ1.out.get 0 rfl).cell 0; have e1_1 := (HQ1.out.get 0 rfl).cell 1; have e1_2 := (HQ1.out.get 0 rfl).cell 2; have e1_3 := (HQ1.out.get 0 rfl).cell 3; have e1_4 := (HQ1.out.get 0 rfl).cell 4; simp only [List.getElem?_toArray, List.getElem?_cons_zero, List.getElem?_cons_succ] at e1_0 e1_1 e1_2 e1_3 e1_4; have HBN := Zh (HBR.out.trans (HQ1.out.bel.mono HBR.out.size))
     go_wp2
     go_ret
     exact ⟨by rw [H0.out]; rfl, HBN.out⟩
    ·
     have H0 := Zh (show r = false by rw [HR.out, HMI.out (by rw [HNF.out]; simp)]); clear HSN HMI HNF
     go_wp2_with fail
     refine (HC.out _ (HE.out _ (HBR.out.trans (HQ0.out.bel.mono HBR.out.size)))).mono ?_; rintro _ y1 ⟨rfl, hb⟩; have HQ1 := Zh (HQ0.out.step hb); clear hb; have e1_0 := (HQ1.out.get 0 rfl).cell 0; have e1_1 := (HQ1.out.get 0 rfl).cell 1; have e1_2 := (HQ1.out.get 0 rfl).cell 2; have e1_3 := (HQ1.out.get 0 rfl).cell 3; have e1_4 := (HQ1.out.get 0 rfl).cell 4; simp only [List.getElem?_toArray, List.getElem?_cons_zero, List.getElem?_cons_succ] at e1_0 e1_1 e1_2 e1_3 e1_4
     go_wp2_with fail
     refine (HM.out _).mono ?_; rintro _ y2 ⟨rfl, hb⟩; have HQ2 := Zh (HQ1.out.step hb); clear hb; have e2_0 := (HQ2.out.get 0 rfl).cell 0; have e2_1 := (HQ2.out.get 0 rfl).cell 1; have e2_2 := (HQ2.out.get 0 rfl).cell 2; have e2_3 := (HQ2.out.get 0 rfl).cell 3; have e2_4 := (HQ2.out.get 0 rfl).cell 4; simp only [List.getElem?_toArray, List.getElem?_cons_zero, List.getElem?_cons_succ] at e2_0 e2_1 e2_2 e2_3 e2_4; have HBN := Zh (HBR.out.trans (HQ2.out.bel.mono HBR.out.size))
     go_wp2
     go_ret
     exact ⟨by rw [H0.out]; rfl, HBN.out⟩
    ·
     have H0 := Zh (show r = false by rw [HR.out, HMI.out (by rw [HNF.out]; simp)]); clear HSN HMI HNF
     go_wp2_with fail
     refine (HC.out _ (HE.out _ (HBR.out.trans (HQ0.out.bel.mono HBR.out.size)))).mono ?_; rintro _ y1 ⟨rfl, hb⟩; have HQ1 := Zh (HQ0.out.step hb); clear hb; have e1_0 := (HQ1.out.get 0 rfl).cell 0; have e1_1 := (HQ1.out.get 0 rfl).cell 1; have e1_2 := (HQ1.out.get 0 rfl).cell 2; have e1_3 := (HQ1.out.get 0 rfl).cell 3; have e1_4 := (HQ1.out.get 0 rfl).cell 4; simp only [List.getElem?_toArray, List.getElem?_cons_zero, List.getElem?_cons_succ] at e1_0 e1_1 e1_2 e1_3 e1_4; have HBN := Zh (HBR.out.trans (HQ1.out.bel.mono HBR.out.size))
     go_wp2
     go_ret
     exact ⟨by rw [H0.out]; rfl, HBN.out⟩
   ·
    obtain rfl : q = len := by omega
    have H0 := Zh (show r = true by rw [HR.out, allO_full okF xs _ (by rw [HI.out.hlen]; omega) HAL.out])
    go_wp2
    go_ret
    exact ⟨by rw [H0.out]; rfl, HBR.out⟩
 ·
  have HR := Zh (show r = xs.all okF by rw [HR0.out]; simp); clear HR0
  go_enter Tryz.func46, Tryz.ntmps46
  go_wp2_with fail
  refine (M2.out _).mono ?_; rintro _ w1 ⟨rfl, hb⟩; have HX1 := Zh (HX0.out.step hb); clear hb; obtain ⟨a1_0, a1_1, a1_2, a1_3, a1_4, a1_5, a1_6, a1_7, a1_8, a1_9, a1_10⟩ := cs11 (HX1.out.get 0 rfl); simp only [List.getElem?_toArray, List.getElem?_cons_zero, List.getElem?_cons_succ] at a1_0 a1_1 a1_2 a1_3 a1_4 a1_5 a1_6 a1_7 a1_8 a1_9 a1_10; have HB0 := Zh HX1.out.bel
  go_wp2
  go_loopw [25] (fun i wr => ∃ q : Nat, q ≤ len ∧ i = .int .i64 (q : Int) ∧ (xs.take q).all okF = true ∧ Below w.heap.size w wr) (fun i _ => len - (intOf i).toNat)
  case atStart => exact ⟨0, Nat.zero_le _, rfl, by simp, HB0.out⟩
  case round =>
   obtain ⟨q, hq, rfl, hall, hB⟩ := hrel; have HBR := Zh hB; have HAL := Zh hall; clear hB hall
   by_cases hql : q < len
   ·
    obtain ⟨o, ho⟩ : ∃ o, xs[q]? = some o := ⟨xs[q]'(by rw [HI.out.hlen]; exact hql), List.getElem?_eq_getElem _⟩; obtain ⟨rfl, hbl⟩ := HI.out.addr (by omega); obtain ⟨c0, c1, c2, c3, c4⟩ := (HI.out.below HBR.out (fun _ => hbl)).cell q o ho; have HSN := Zh (allO_snoc okF xs q o ho); have HMI := Zh (allO_miss okF xs q o ho); have hqI : (q : Int) < (len : Int) := by omega
    have HSZ := Zh (HZ.out o (List.mem_of_getElem? ho)); obtain ⟨od, ou, oc, ok, ov⟩ := o; simp only at c0 c1 c2 c3 c4; clear ho; have HC := Zh (fun W hW => cis_any oc HSZ.out.c W hW); have HM := Zh (fun W => Et.may_any ok ov W); obtain ⟨nc, hnc⟩ : ∃ r, isC oc = r := ⟨_, rfl⟩; obtain ⟨nm, hnm⟩ : ∃ r, Et.mayB ok ov = r := ⟨_, rfl⟩; have HNF := Zh (show okF ⟨od, ou, oc, ok, ov⟩ = ((od || nc) && nm) by unfold okF; simp only [hnc, hnm]); rw [hnc] at HC; rw [hnm] at HM; clear hnc hnm; have HQ0 := Zh ((Bxs.start wr).new 43 #[.bool od, .string ou, .string oc, .int .i64 ok, .int .i64 ov]); have ways : (od = true ∧ nm = true) ∨ (od = false ∧ nc = true ∧ nm = true) ∨ (od = true ∧ nm = false) ∨ (od = false ∧ nc = true ∧ nm = false) ∨ (od = false ∧ nc = false) := by
     cases od <;> cases nc <;> cases nm <;> simp
    rcases ways with ⟨rfl, rfl⟩ | ⟨rfl, rfl, rfl⟩ | ⟨rfl, rfl⟩ | ⟨rfl, rfl, rfl⟩ | ⟨rfl, rfl⟩
    ·
     have HN := Zh (show (xs.take (q + 1)).all okF = true by rw [HSN.out, HAL.out, HNF.out]; simp); clear HSN HMI HNF
     go_wp2_with fail
     refine (HM.out _).mono ?_; rintro _ y1 ⟨rfl, hb⟩; have HQ1 := Zh (HQ0.out.step hb); clear hb; have e1_0 := (HQ1.out.get 0 rfl).cell 0; have e1_1 := (HQ1.out.get 0 rfl).cell 1; have e1_2 := (HQ1.out.get 0 rfl).cell 2; have e1_3 := (HQ1.out.get 0 rfl).cell 3; have e1_4 := (HQ1.out.get 0 rfl).cell 4; simp only [List.getElem?_toArray, List.getElem?_cons_zero, List.getElem?_cons_succ] at e1_0 e1_1 e1_2 e1_3 e1_4; have HBN := Zh (HBR.out.trans (HQ1.out.bel.mono HBR.out.size))
     go_wp2
     go_roundw
     case rel => exact ⟨q + 1, by omega, by go_num, HN.out, HBN.out⟩
     case measure => simp [intOf]; omega
    ·
     have HN := Zh (show (xs.take (q + 1)).all okF = true by rw [HSN.out, HAL.out, HNF.out]; simp); clear HSN HMI HNF
     go_wp2_with fail
     refine (HC.out _ (HE.out _ (HBR.out.trans (HQ0.out.bel.mono HBR.out.size)))).mono ?_; rintro _ y1 ⟨rfl, hb⟩; have HQ1 := Zh (HQ0.out.step hb); clear hb; have e1_0 := (HQ1.out.get 0 rfl).cell 0; have e1_1 := (HQ1.out.get 0 rfl).cell 1; have e1_2 := (HQ1.out.get 0 rfl).cell 2; have e1_3 := (HQ1.out.get 0 rfl).cell 3; have e1_4 := (HQ1.out.get 0 rfl).cell 4; simp only [List.getElem?_toArray, List.getElem?_cons_zero, List.getElem?_cons_succ] at e1_0 e1_1 e1_2 e1_3 e1_4
     go_wp2_with fail
     refine (HM.out _).mono ?_; rintro _ y2 ⟨rfl, hb⟩; have HQ2 := Zh (HQ1.out.step hb); clear hb; have e2_0 := (HQ2.out.get 0 rfl).cell 0; have e2_1 := (HQ2.out.get 0 rfl).cell 1; have e2_2 := (HQ2.out.get 0 rfl).cell 2; have e2_3 := (HQ2.out.get 0 rfl).cell 3; have e2_4 := (HQ2.out.get 0 rfl).cell 4; simp only [List.getElem?_toArray, List.getElem?_cons_zero, List.getElem?_cons_succ] at e2_0 e2_1 e2_2 e2_3 e2_4; have HBN := Zh (HBR.out.trans (HQ2.out.bel.mono HBR.out.size))
     go_wp2
     go_roundw
     case rel => exact ⟨q + 1, by omega, by go_num, HN.out, HBN.out⟩
     case measure => simp [intOf]; omega
    ·
     have H0 := Zh (show r = false by rw [HR.out, HMI.out (by rw [HNF.out]; simp)]); clear HSN HMI HNF
     go_wp2_with fail
     refine (HM.out _).mono ?_; rintro _ y1 ⟨rfl, hb⟩; have HQ1 := Zh (HQ0.out.step hb); clear hb; have e1_0 := (HQ1.out.get 0 rfl).cell 0; have e1_1 := (HQ1.out.get 0 rfl).cell 1; have e1_2 := (HQ1.out.get 0 rfl).cell 2; have e1_3 := (HQ1.out.get 0 rfl).cell 3; have e1_4 := (HQ1.out.get 0 rfl).cell 4; simp only [List.getElem?_toArray, List.getElem?_cons_zero, List.getElem?_cons_succ] at e1_0 e1_1 e1_2 e1_3 e1_4; have HBN := Zh (HBR.out.trans (HQ1.out.bel.mono HBR.out.size))
     go_wp2
     go_ret
     exact ⟨by rw [H0.out]; rfl, HBN.out⟩
    ·
     have H0 := Zh (show r = false by rw [HR.out, HMI.out (by rw [HNF.out]; simp)]); clear HSN HMI HNF
     go_wp2_with fail
     refine (HC.out _ (HE.out _ (HBR.out.trans (HQ0.out.bel.mono HBR.out.size)))).mono ?_; rintro _ y1 ⟨rfl, hb⟩; have HQ1 := Zh (HQ0.out.step hb); clear hb; have e1_0 := (HQ1.out.get 0 rfl).cell 0; have e1_1 := (HQ1.out.get 0 rfl).cell 1; have e1_2 := (HQ1.out.get 0 rfl).cell 2; have e1_3 := (HQ1.out.get 0 rfl).cell 3; have e1_4 := (HQ1.out.get 0 rfl).cell 4; simp only [List.getElem?_toArray, List.getElem?_cons_zero, List.getElem?_cons_succ] at e1_0 e1_1 e1_2 e1_3 e1_4
     go_wp2_with fail
     refine (HM.out _).mono ?_; rintro _ y2 ⟨rfl, hb⟩; have HQ2 := Zh (HQ1.out.step hb); clear hb; have e2_0 := (HQ2.out.get 0 rfl).cell 0; have e2_1 := (HQ2.out.get 0 rfl).cell 1; have e2_2 := (HQ2.out.get 0 rfl).cell 2; have e2_3 := (HQ2.out.get 0 rfl).cell 3; have e2_4 := (HQ2.out.get 0 rfl).cell 4; simp only [List.getElem?_toArray, List.getElem?_cons_zero, List.getElem?_cons_succ] at e2_0 e2_1 e2_2 e2_3 e2_4; have HBN := Zh (HBR.out.trans (HQ2.out.bel.mono HBR.out.size))
     go_wp2
     go_ret
     exact ⟨by rw [H0.out]; rfl, HBN.out⟩
    ·
     have H0 := Zh (show r = false by rw [HR.out, HMI.out (by rw [HNF.out]; simp)]); clear HSN HMI HNF
     go_wp2_with fail
     refine (HC.out _ (HE.out _ (HBR.out.trans (HQ0.out.bel.mono HBR.out.size)))).mono ?_; rintro _ y1 ⟨rfl, hb⟩; have HQ1 := Zh (HQ0.out.step hb); clear hb; have e1_0 := (HQ1.out.get 0 rfl).cell 0; have e1_1 := (HQ1.out.get 0 rfl).cell 1; have e1_2 := (HQ1.out.get 0 rfl).cell 2; have e1_3 := (HQ1.out.get 0 rfl).cell 3; have e1_4 := (HQ1.out.get 0 rfl).cell 4; simp only [List.getElem?_toArray, List.getElem?_cons_zero, List.getElem?_cons_succ] at e1_0 e1_1 e1_2 e1_3 e1_4; have HBN := Zh (HBR.out.trans (HQ1.out.bel.mono HBR.out.size))
     go_wp2
     go_ret
     exact ⟨by rw [H0.out]; rfl, HBN.out⟩
   ·
    obtain rfl : q = len := by omega
    have H0 := Zh (show r = true by rw [HR.out, allO_full okF xs _ (by rw [HI.out.hlen]; omega) HAL.out])
    go_wp2
    go_ret
    exact ⟨by rw [H0.out]; rfl, HBR.out⟩
 ·
  have H0 := Zh (show r = false by rw [HR0.out]; simp); clear HR0
  go_enter Tryz.func46, Tryz.ntmps46
  go_wp2_with fail
  refine (M1.out _ (HE.out _ HX0.out.bel)).mono ?_; rintro _ w1 ⟨rfl, hb⟩; have HX1 := Zh (HX0.out.step hb); clear hb; obtain ⟨a1_0, a1_1, a1_2, a1_3, a1_4, a1_5, a1_6, a1_7, a1_8, a1_9, a1_10⟩ := cs11 (HX1.out.get 0 rfl); simp only [List.getElem?_toArray, List.getElem?_cons_zero, List.getElem?_cons_succ] at a1_0 a1_1 a1_2 a1_3 a1_4 a1_5 a1_6 a1_7 a1_8 a1_9 a1_10
  go_wp2_with fail
  refine (M2.out _).mono ?_; rintro _ w2 ⟨rfl, hb⟩; have HX2 := Zh (HX1.out.step hb); clear hb; obtain ⟨a2_0, a2_1, a2_2, a2_3, a2_4, a2_5, a2_6, a2_7, a2_8, a2_9, a2_10⟩ := cs11 (HX2.out.get 0 rfl); simp only [List.getElem?_toArray, List.getElem?_cons_zero, List.getElem?_cons_succ] at a2_0 a2_1 a2_2 a2_3 a2_4 a2_5 a2_6 a2_7 a2_8 a2_9 a2_10; have HB0 := Zh HX2.out.bel
  go_wp2
  go_ret
  exact ⟨by rw [H0.out]; rfl, HB0.out⟩
 ·
  have H0 := Zh (show r = false by rw [HR0.out]; simp); clear HR0
  go_enter Tryz.func46, Tryz.ntmps46
  go_wp2_with fail
  refine (M2.out _).mono ?_; rintro _ w1 ⟨rfl, hb⟩; have HX1 := Zh (HX0.out.step hb); clear hb; obtain ⟨a1_0, a1_1, a1_2, a1_3, a1_4, a1_5, a1_6, a1_7, a1_8, a1_9, a1_10⟩ := cs11 (HX1.out.get 0 rfl); simp only [List.getElem?_toArray, List.getElem?_cons_zero, List.getElem?_cons_succ] at a1_0 a1_1 a1_2 a1_3 a1_4 a1_5 a1_6 a1_7 a1_8 a1_9 a1_10; have HB0 := Zh HX1.out.bel
  go_wp2
  go_ret
  exact ⟨by rw [H0.out]; rfl, HB0.out⟩
 ·
  have H0 := Zh (show r = false by rw [HR0.out]; simp); clear HR0
  go_enter Tryz.func46, Tryz.ntmps46
  go_wp2_with fail
  refine (M1.out _ (HE.out _ HX0.out.bel)).mono ?_; rintro _ w1 ⟨rfl, hb⟩; have HX1 := Zh (HX0.out.step hb); clear hb; obtain ⟨a1_0, a1_1, a1_2, a1_3, a1_4, a1_5, a1_6, a1_7, a1_8, a1_9, a1_10⟩ := cs11 (HX1.out.get 0 rfl); simp only [List.getElem?_toArray, List.getElem?_cons_zero, List.getElem?_cons_succ] at a1_0 a1_1 a1_2 a1_3 a1_4 a1_5 a1_6 a1_7 a1_8 a1_9 a1_10; have HB0 := Zh HX1.out.bel
  go_wp2
  go_ret
  exact ⟨by rw [H0.out]; rfl, HB0.out⟩
theorem rangq_any (k : Int) (t co u c : ByteArray) (ck cv : Int) (tok mo ti : Int) (A : Option Addr) (len cap : Nat) (hn : len ≤ 1000000) (H : Int) (x6 x8 : Bool) (hx6 : (bits .and .i64 H 32 != 0) = x6) (hx8 : (bits .and .i64 H 128 != 0) = x8) (w : World) :
  Calls Tryz.prog 47 #[.agg #[.int .i64 k, .string t, .string co, .string u, .string c, .int .i64 ck, .int .i64 cv, .slice A len cap, .int .i64 tok, .int .i64 mo, .int .i64 ti], .int .i64 H] w fun e w' => e = .returned (.bool ((!x6 || decide (1 ≤ len) && decide (len ≤ 8)) && (!x8 || decide (1 ≤ mo) && decide (mo ≤ 1000)) && decide (0 ≤ tok) && decide (0 ≤ ti) && decide (ti ≤ 1048576))) ∧ Below w.heap.size w w' := by
 have HX0 := Zh ((Bxs.start w).new 26 #[.int .i64 k, .string t, .string co, .string u, .string c, .int .i64 ck, .int .i64 cv, .slice A len cap, .int .i64 tok, .int .i64 mo, .int .i64 ti]); obtain ⟨r, hr⟩ : ∃ r, ((!x6 || decide (1 ≤ len) && decide (len ≤ 8)) && (!x8 || decide (1 ≤ mo) && decide (mo ≤ 1000)) && decide (0 ≤ tok) && decide (0 ≤ ti) && decide (ti ≤ 1048576)) = r := ⟨_, rfl⟩; have HR := Zh hr.symm; rw [hr]; clear hr; have hnI : (len : Int) ≤ 1000000 := by omega
 cases x6 with
 | false =>
  cases x8 with
  | false =>
   by_cases t1 : tok < 0
   ·
    have H0 := Zh (show r = false by rw [HR.out]; simp; try omega); clear HR
    go_enter Tryz.func47, Tryz.ntmps47
    go_wp2
    go_ret
    exact ⟨by rw [H0.out]; first | rfl | (simp; omega), HX0.out.bel⟩
   by_cases t2 : ti < 0
   ·
    have H0 := Zh (show r = false by rw [HR.out]; simp; try omega); clear HR
    go_enter Tryz.func47, Tryz.ntmps47
    go_wp2
    go_ret
    exact ⟨by rw [H0.out]; first | rfl | (simp; omega), HX0.out.bel⟩
   by_cases t3 : 1048576 < ti
   ·
    have d3 : decide (ti ≤ 1048576) = false := decide_eq_false (by omega); have H0 := Zh (show r = false by rw [HR.out]; simp; try omega); clear HR
    go_enter Tryz.func47, Tryz.ntmps47
    go_wp2
    go_ret
    exact ⟨by rw [H0.out]; first | rfl | (simp; omega), HX0.out.bel⟩
   have d3 : decide (ti ≤ 1048576) = true := decide_eq_true (by omega); have H0 := Zh (show r = true by rw [HR.out]; simp; try omega); clear HR
   go_enter Tryz.func47, Tryz.ntmps47
   go_wp2
   go_ret
   exact ⟨by rw [H0.out]; first | rfl | (simp; omega), HX0.out.bel⟩
  | true =>
   by_cases m1 : mo < 1
   ·
    have H0 := Zh (show r = false by rw [HR.out]; simp; try omega); clear HR
    go_enter Tryz.func47, Tryz.ntmps47
    go_wp2
    go_ret
    exact ⟨by rw [H0.out]; first | rfl | (simp; omega), HX0.out.bel⟩
   by_cases m2 : 1000 < mo
   ·
    have H0 := Zh (show r = false by rw [HR.out]; simp; try omega); clear HR
    go_enter Tryz.func47, Tryz.ntmps47
    go_wp2
    go_ret
    exact ⟨by rw [H0.out]; first | rfl | (simp; omega), HX0.out.bel⟩
   by_cases t1 : tok < 0
   ·
    have H0 := Zh (show r = false by rw [HR.out]; simp; try omega); clear HR
    go_enter Tryz.func47, Tryz.ntmps47
    go_wp2
    go_ret
    exact ⟨by rw [H0.out]; first | rfl | (simp; omega), HX0.out.bel⟩
   by_cases t2 : ti < 0
   ·
    have H0 := Zh (show r = false by rw [HR.out]; simp; try omega); clear HR
    go_enter Tryz.func47, Tryz.ntmps47
    go_wp2
    go_ret
    exact ⟨by rw [H0.out]; first | rfl | (simp; omega), HX0.out.bel⟩
   by_cases t3 : 1048576 < ti
   ·
    have d3 : decide (ti ≤ 1048576) = false := decide_eq_false (by omega); have H0 := Zh (show r = false by rw [HR.out]; simp; try omega); clear HR
    go_enter Tryz.func47, Tryz.ntmps47
    go_wp2
    go_ret
    exact ⟨by rw [H0.out]; first | rfl | (simp; omega), HX0.out.bel⟩
   have d3 : decide (ti ≤ 1048576) = true := decide_eq_true (by omega); have H0 := Zh (show r = true by rw [HR.out]; simp; try omega); clear HR
   go_enter Tryz.func47, Tryz.ntmps47
   go_wp2
   go_ret
   exact ⟨by rw [H0.out]; first | rfl | (simp; omega), HX0.out.bel⟩
 | true =>
  by_cases l1 : (len : Int) < 1
  ·
   have H0 := Zh (show r = false by rw [HR.out]; simp; try omega); clear HR
   go_enter Tryz.func47, Tryz.ntmps47
   go_wp2
   go_ret
   exact ⟨by rw [H0.out]; first | rfl | (simp; omega), HX0.out.bel⟩
  by_cases l2 : (8 : Int) < (len : Int)
  ·
   have H0 := Zh (show r = false by rw [HR.out]; simp; try omega); clear HR
   go_enter Tryz.func47, Tryz.ntmps47
   go_wp2
   go_ret
   exact ⟨by rw [H0.out]; first | rfl | (simp; omega), HX0.out.bel⟩
  cases x8 with
  | false =>
   by_cases t1 : tok < 0
   ·
    have H0 := Zh (show r = false by rw [HR.out]; simp; try omega); clear HR
    go_enter Tryz.func47, Tryz.ntmps47
    go_wp2
    go_ret
    exact ⟨by rw [H0.out]; first | rfl | (simp; omega), HX0.out.bel⟩
   by_cases t2 : ti < 0
   ·
    have H0 := Zh (show r = false by rw [HR.out]; simp; try omega); clear HR
    go_enter Tryz.func47, Tryz.ntmps47
    go_wp2
    go_ret
    exact ⟨by rw [H0.out]; first | rfl | (simp; omega), HX0.out.bel⟩
   by_cases t3 : 1048576 < ti
   ·
    have d3 : decide (ti ≤ 1048576) = false := decide_eq_false (by omega); have H0 := Zh (show r = false by rw [HR.out]; simp; try omega); clear HR
    go_enter Tryz.func47, Tryz.ntmps47
    go_wp2
    go_ret
    exact ⟨by rw [H0.out]; first | rfl | (simp; omega), HX0.out.bel⟩
   have d3 : decide (ti ≤ 1048576) = true := decide_eq_true (by omega); have H0 := Zh (show r = true by rw [HR.out]; simp; try omega); clear HR
   go_enter Tryz.func47, Tryz.ntmps47
   go_wp2
   go_ret
   exact ⟨by rw [H0.out]; first | rfl | (simp; omega), HX0.out.bel⟩
  | true =>
   by_cases m1 : mo < 1
   ·
    have H0 := Zh (show r = false by rw [HR.out]; simp; try omega); clear HR
    go_enter Tryz.func47, Tryz.ntmps47
    go_wp2
    go_ret
    exact ⟨by rw [H0.out]; first | rfl | (simp; omega), HX0.out.bel⟩
   by_cases m2 : 1000 < mo
   ·
    have H0 := Zh (show r = false by rw [HR.out]; simp; try omega); clear HR
    go_enter Tryz.func47, Tryz.ntmps47
    go_wp2
    go_ret
    exact ⟨by rw [H0.out]; first | rfl | (simp; omega), HX0.out.bel⟩
   by_cases t1 : tok < 0
   ·
    have H0 := Zh (show r = false by rw [HR.out]; simp; try omega); clear HR
    go_enter Tryz.func47, Tryz.ntmps47
    go_wp2
    go_ret
    exact ⟨by rw [H0.out]; first | rfl | (simp; omega), HX0.out.bel⟩
   by_cases t2 : ti < 0
   ·
    have H0 := Zh (show r = false by rw [HR.out]; simp; try omega); clear HR
    go_enter Tryz.func47, Tryz.ntmps47
    go_wp2
    go_ret
    exact ⟨by rw [H0.out]; first | rfl | (simp; omega), HX0.out.bel⟩
   by_cases t3 : 1048576 < ti
   ·
    have d3 : decide (ti ≤ 1048576) = false := decide_eq_false (by omega); have H0 := Zh (show r = false by rw [HR.out]; simp; try omega); clear HR
    go_enter Tryz.func47, Tryz.ntmps47
    go_wp2
    go_ret
    exact ⟨by rw [H0.out]; first | rfl | (simp; omega), HX0.out.bel⟩
   have d3 : decide (ti ≤ 1048576) = true := decide_eq_true (by omega); have H0 := Zh (show r = true by rw [HR.out]; simp; try omega); clear HR
   go_enter Tryz.func47, Tryz.ntmps47
   go_wp2
   go_ret
   exact ⟨by rw [H0.out]; first | rfl | (simp; omega), HX0.out.bel⟩
end
end Go.Proofs.YtphijnkiiokieaaGreatDoor
