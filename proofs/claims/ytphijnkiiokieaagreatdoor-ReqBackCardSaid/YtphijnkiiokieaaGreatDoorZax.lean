/- ReqFields: a field that its kind doesn't have. -/
import Derived.Test.YtphijnkiiokieaaGreatDoorZar
import Derived.BigQuiet
import Derived.Test.YtphijnkiiokieaaGreatDoorZaw
import Derived.Lib.SlBytesConst
/- Requests: light ones, like ones, one handed over. -/
namespace Go.Proofs.YtphijnkiiokieaaGreatDoor
open Go.RowKit
open Go.Lib hiding intOf
set_option linter.unusedVariables false
set_option linter.unusedSimpArgs false
set_option maxRecDepth 100000
def litO (o : Opn) : Bool := decide (o.u.size ≤ 60) && decide (o.c.size ≤ 2000)
def lightQ (q : Rq) : Bool := decide (q.t.size ≤ 60) && decide (q.co.size ≤ 60) && decide (q.u.size ≤ 60) && decide (q.c.size ≤ 2000) && decide (q.ops.length ≤ 20) && q.ops.all litO
theorem light_le {q : Rq} (h : lightQ q = true) : q.t.size ≤ 60 ∧ q.co.size ≤ 60 ∧ q.u.size ≤ 60 ∧ q.c.size ≤ 2000 ∧ q.ops.length ≤ 20 ∧ ∀ o ∈ q.ops, o.u.size ≤ 60 ∧ o.c.size ≤ 2000 := by
  unfold lightQ at h
  simp only [Bool.and_eq_true, decide_eq_true_eq, List.all_eq_true] at h
  obtain ⟨⟨⟨⟨⟨a1, a2⟩, a3⟩, a4⟩, a5⟩, a6⟩ := h
  refine ⟨a1, a2, a3, a4, a5, fun o ho => ?_⟩
  have := a6 o ho
  unfold litO at this
  simp only [Bool.and_eq_true, decide_eq_true_eq] at this
  exact this
section
variable {w : World} {A B : Option Addr} {len cap capB b b2 off off2 : Nat} {xs : List Opn}
set_option maxHeartbeats 8000000 in
theorem qlight_raw (h : Ops w A len cap b off xs) (k : Int) (t co u c : ByteArray) (ck cv : Int) (tok mo ti : Int) (hs : len ≤ maxLen) :
    Calls Tryz.prog 9 #[.agg #[.int .i64 k, .string t, .string co, .string u, .string c, .int .i64 ck, .int .i64 cv, .slice A len cap, .int .i64 tok, .int .i64 mo, .int .i64 ti]] w fun e w' => e = .returned (.bool (lightQ ⟨k, t, co, u, c, ck, cv, xs, tok, mo, ti⟩)) ∧ Below w.heap.size w w' := by
  have HX0 := Lib.hid ((Bxs.start w).new 26 #[.int .i64 k, .string t, .string co, .string u, .string c, .int .i64 ck, .int .i64 cv, .slice A len cap, .int .i64 tok, .int .i64 mo, .int .i64 ti])
  have HI := Lib.hid h
  have hlen := h.hlen
  have hlc := h.le
  obtain ⟨r, hr⟩ : ∃ r, lightQ ⟨k, t, co, u, c, ck, cv, xs, tok, mo, ti⟩ = r := ⟨_, rfl⟩
  have HR0 := Lib.hid hr.symm
  rw [hr]
  clear hr h
  by_cases n0 : (t.size : Int) > 60
  · have H0 := Lib.hid (show r = false by rw [HR0.out]; unfold lightQ; rw [decide_eq_false (show ¬ t.size ≤ 60 by omega)]; simp)
    go_enter Tryz.func9, Tryz.ntmps9
    go_wp2
    go_ret
    exact ⟨by rw [H0.out]; rfl, HX0.out.bel⟩
  by_cases n1 : (co.size : Int) > 60
  · have H0 := Lib.hid (show r = false by rw [HR0.out]; unfold lightQ; rw [decide_eq_false (show ¬ co.size ≤ 60 by omega)]; simp)
    go_enter Tryz.func9, Tryz.ntmps9
    go_wp2
    go_ret
    exact ⟨by rw [H0.out]; rfl, HX0.out.bel⟩
  by_cases n2 : (u.size : Int) > 60
  · have H0 := Lib.hid (show r = false by rw [HR0.out]; unfold lightQ; rw [decide_eq_false (show ¬ u.size ≤ 60 by omega)]; simp)
    go_enter Tryz.func9, Tryz.ntmps9
    go_wp2
    go_ret
    exact ⟨by rw [H0.out]; rfl, HX0.out.bel⟩
  by_cases n3 : (c.size : Int) > 2000
  · have H0 := Lib.hid (show r = false by rw [HR0.out]; unfold lightQ; rw [decide_eq_false (show ¬ c.size ≤ 2000 by omega)]; simp)
    go_enter Tryz.func9, Tryz.ntmps9
    go_wp2
    go_ret
    exact ⟨by rw [H0.out]; rfl, HX0.out.bel⟩
  by_cases n4 : (len : Int) > 20
  · have H0 := Lib.hid (show r = false by rw [HR0.out]; unfold lightQ; rw [decide_eq_false (show ¬ xs.length ≤ 20 by omega)]; simp)
    go_enter Tryz.func9, Tryz.ntmps9
    go_wp2
    go_ret
    exact ⟨by rw [H0.out]; rfl, HX0.out.bel⟩
  have HR := Lib.hid (show r = xs.all litO by
    rw [HR0.out]; unfold lightQ
    rw [decide_eq_true (show t.size ≤ 60 by omega), decide_eq_true (show co.size ≤ 60 by omega), decide_eq_true (show u.size ≤ 60 by omega), decide_eq_true (show c.size ≤ 2000 by omega), decide_eq_true (show xs.length ≤ 20 by omega)]
    rfl)
  clear HR0
  have hnI : (len : Int) ≤ 20 := by omega
  go_enter Tryz.func9, Tryz.ntmps9
  go_wp2
  go_loopw [3] (fun i wr => ∃ q : Nat, q ≤ len ∧ i = .int .i64 (q : Int) ∧ (xs.take q).all litO = true ∧ Bxs w wr [(w.heap.size, 26, #[.int .i64 k, .string t, .string co, .string u, .string c, .int .i64 ck, .int .i64 cv, .slice A len cap, .int .i64 tok, .int .i64 mo, .int .i64 ti])]) (fun i _ => len - (intOf i).toNat)
  case atStart => exact ⟨0, Nat.zero_le _, rfl, by simp, HX0.out⟩
  case round =>
    obtain ⟨q, hq, rfl, hall, hB⟩ := hrel
    have HBR := Lib.hid hB
    have HAL := Lib.hid hall
    have x7 := (hB.get 0 rfl).cell 7
    clear hB hall
    by_cases hql : q < len
    · obtain ⟨o, ho⟩ : ∃ o, xs[q]? = some o := ⟨xs[q]'(by rw [HI.out.hlen]; exact hql), List.getElem?_eq_getElem _⟩
      obtain ⟨rfl, hbl⟩ := HI.out.addr (by omega)
      obtain ⟨c0, c1, c2, c3, c4⟩ := (HI.out.below HBR.out.bel (fun _ => hbl)).cell q o ho
      have HSN := Lib.hid (allO_snoc litO xs q o ho)
      have HMI := Lib.hid (allO_miss litO xs q o ho)
      have hqI : (q : Int) < (len : Int) := by omega
      obtain ⟨od, ou, oc, ok, ov⟩ := o
      simp only at c0 c1 c2 c3 c4
      clear ho
      by_cases hu : (ou.size : Int) > 60
      · have H0 := Lib.hid (show r = false by rw [HR.out, HMI.out (by unfold litO; rw [decide_eq_false (show ¬ ou.size ≤ 60 by omega)]; rfl)])
        clear HSN HMI
        go_wp2
        go_ret
        exact ⟨by rw [H0.out]; rfl, HBR.out.bel⟩
      by_cases hc : (oc.size : Int) > 2000
      · have H0 := Lib.hid (show r = false by rw [HR.out, HMI.out (by unfold litO; rw [decide_eq_false (show ¬ oc.size ≤ 2000 by omega)]; simp)])
        clear HSN HMI
        go_wp2
        go_ret
        exact ⟨by rw [H0.out]; rfl, HBR.out.bel⟩
      have HN := Lib.hid (show (xs.take (q + 1)).all litO = true by rw [HSN.out, HAL.out, Bool.true_and]; unfold litO; rw [decide_eq_true (show oc.size ≤ 2000 by omega), decide_eq_true (show ou.size ≤ 60 by omega)]; rfl)
      clear HSN HMI
      go_wp2
      go_roundw
      case rel => exact ⟨q + 1, by omega, by go_num, HN.out, HBR.out⟩
      case measure => simp [intOf]; omega
    · obtain rfl : q = len := by omega
      have H0 := Lib.hid (show r = true by rw [HR.out, allO_full litO xs _ (by rw [HI.out.hlen]; omega) HAL.out])
      go_wp2
      go_ret
      exact ⟨by rw [H0.out]; rfl, HBR.out.bel⟩
theorem neO_same (d : Bool) (u c : ByteArray) (k v : Int) (w : World) : Sem.run Tryz.prog (binOp .neq 43 (.agg #[.bool d, .string u, .string c, .int .i64 k, .int .i64 v]) (.agg #[.bool d, .string u, .string c, .int .i64 k, .int .i64 v])) w = .ok (.bool false) w := by
  go_simp
set_option maxHeartbeats 8000000 in
theorem qsame_raw (h : Ops w A len cap b off xs) (h2 : Ops w B len capB b2 off2 xs) (hn : len ≤ 1000000) (k : Int) (t co u c : ByteArray) (ck cv : Int) (tok mo ti : Int) :
    Calls Tryz.prog 16 #[.agg #[.int .i64 k, .string t, .string co, .string u, .string c, .int .i64 ck, .int .i64 cv, .slice A len cap, .int .i64 tok, .int .i64 mo, .int .i64 ti], .agg #[.int .i64 k, .string t, .string co, .string u, .string c, .int .i64 ck, .int .i64 cv, .slice B len capB, .int .i64 tok, .int .i64 mo, .int .i64 ti]] w fun e w' => e = .returned (.bool true) ∧ Below w.heap.size w w' := by
  have HX0 := Lib.hid (Bxs.two w 26 26 #[.int .i64 k, .string t, .string co, .string u, .string c, .int .i64 ck, .int .i64 cv, .slice A len cap, .int .i64 tok, .int .i64 mo, .int .i64 ti] #[.int .i64 k, .string t, .string co, .string u, .string c, .int .i64 ck, .int .i64 cv, .slice B len capB, .int .i64 tok, .int .i64 mo, .int .i64 ti])
  have HA := Lib.hid h
  have HB := Lib.hid h2
  have hlen := h.hlen
  have hlc := h.le
  have hlc2 := h2.le
  have hnI : (len : Int) ≤ 1000000 := by omega
  have hC : ∀ wq, Sem.run Tryz.prog (binOp .neq 23 (.agg #[.int .i64 ck, .int .i64 cv]) (.agg #[.int .i64 ck, .int .i64 cv])) wq = .ok (.bool false) wq := fun wq => by
    have := neC_run ck cv ck cv wq
    simpa using this
  clear h h2
  go_enter Tryz.func16, Tryz.ntmps16
  go_wp2
  go_loopw [5] (fun i wr => ∃ q : Nat, q ≤ len ∧ i = .int .i64 (q : Int) ∧ Bxs w wr [(w.heap.size, 26, #[.int .i64 k, .string t, .string co, .string u, .string c, .int .i64 ck, .int .i64 cv, .slice A len cap, .int .i64 tok, .int .i64 mo, .int .i64 ti]), (w.heap.size + 1, 26, #[.int .i64 k, .string t, .string co, .string u, .string c, .int .i64 ck, .int .i64 cv, .slice B len capB, .int .i64 tok, .int .i64 mo, .int .i64 ti])]) (fun i _ => len - (intOf i).toNat)
  case atStart => exact ⟨0, Nat.zero_le _, rfl, HX0.out⟩
  case round =>
    obtain ⟨q, hq, rfl, hB⟩ := hrel
    have HBR := Lib.hid hB
    have x7 := (hB.get 0 rfl).cell 7
    have y7 := (hB.get 1 rfl).cell 7
    clear hB
    by_cases hql : q < len
    · obtain ⟨o, ho⟩ : ∃ o, xs[q]? = some o := ⟨xs[q]'(by rw [HA.out.hlen]; exact hql), List.getElem?_eq_getElem _⟩
      obtain ⟨rfl, hbl⟩ := HA.out.addr (by omega)
      obtain ⟨rfl, hbk⟩ := HB.out.addr (by omega)
      obtain ⟨c0, c1, c2, c3, c4⟩ := (HA.out.below HBR.out.bel (fun _ => hbl)).cell q o ho
      obtain ⟨d0, d1, d2, d3, d4⟩ := (HB.out.below HBR.out.bel (fun _ => hbk)).cell q o ho
      have hqI : (q : Int) < (len : Int) := by omega
      obtain ⟨od, ou, oc, ok, ov⟩ := o
      simp only at c0 c1 c2 c3 c4 d0 d1 d2 d3 d4
      have heq := fun wq => neO_same od ou oc ok ov wq
      clear ho
      go_wp2_with fail
      go_quiet (fail)
      have HQ := Lib.hid (HBR.out.drewN nq)
      go_wp2
      go_roundw
      case rel => exact ⟨q + 1, by omega, by go_num, HQ.out⟩
      case measure => simp [intOf]; omega
    · obtain rfl : q = len := by omega
      go_wp2
      go_ret
      exact ⟨rfl, HBR.out.bel⟩
theorem qlight_any {q : Rq} (h : Ops w A len cap b off q.ops) (hs : len ≤ maxLen) : Calls Tryz.prog 9 #[.agg #[.int .i64 q.k, .string q.t, .string q.co, .string q.u, .string q.c, .int .i64 q.ck, .int .i64 q.cv, .slice A len cap, .int .i64 q.tok, .int .i64 q.mo, .int .i64 q.ti]] w fun e w' => e = .returned (.bool (lightQ q)) ∧ Below w.heap.size w w' := by
  obtain ⟨k, t, co, u, c, ck, cv, ops, tok, mo, ti⟩ := q
  exact qlight_raw h k t co u c ck cv tok mo ti hs
end
end Go.Proofs.YtphijnkiiokieaaGreatDoor
/- first: what the chapter's example fixes. -/
namespace Go.Proofs.YtphijnkiiokieaaGreatDoor
open Go.RowKit
open Go.Lib hiding intOf
set_option linter.unusedVariables false
set_option linter.unusedSimpArgs false
set_option maxRecDepth 100000
def gv : List UInt8 := [4, 104, 111, 109, 101, 2, 117, 49]
def gvc : Array Value := #[.int .u8 4, .int .u8 104, .int .u8 111, .int .u8 109, .int .u8 101, .int .u8 2, .int .u8 117, .int .u8 49]
theorem gv_byt (W : World) : Byt (W.alloc (.cells gvc 5 (8, 9))) (some ⟨W.heap.size, 0, none⟩) 8 8 W.heap.size 0 gv :=
  ⟨rfl, Nat.le_refl _, by decide, fun _ => ⟨rfl, by simp⟩, fun j u hu => by
    have hc : (W.alloc (.cells gvc 5 (8, 9))).cell? ⟨W.heap.size, 0 + j, none⟩ = gvc[j]? := by
      have h : (W.alloc (.cells gvc 5 (8, 9))).heap[W.heap.size]? = some (.cells gvc 5 (8, 9)) := by
        show (W.heap.push (.cells gvc 5 (8, 9)))[W.heap.size]? = _
        simp
      simp only [World.cell?, h, Nat.zero_add]
      rfl
    rw [hc]
    have : (gv.map bv)[j]? = some (bv u) := by rw [List.getElem?_map, hu]; rfl
    simpa [gv, gvc, bv] using this⟩
def homeS : ByteArray := ⟨#[104, 111, 109, 101]⟩
def u1S : ByteArray := ⟨#[117, 49]⟩
def getQ : Rq := ⟨6, bE, homeS, u1S, bE, 0, 0, [], 0, 0, 0⟩
theorem get_check : checkQ getQ = 0 := by decide +kernel
theorem get_bytes : bytesQ getQ = gv := by decide +kernel
theorem get_wf : WfQ getQ := ⟨by decide, by decide, by decide, by decide, by decide, fun o ho => nomatch ho⟩
theorem get_sz : SzQ getQ := ⟨by decide, by decide, by decide, by decide, fun o ho => (nomatch ho), by decide⟩
theorem decQ_enc {q : Rq} (h : checkQ q = 0) (w : WfQ q) : decQ q.k (bytesQ q) = (q, 0) := by
  have g := gdq_of h w
  obtain ⟨h1, h2⟩ := donQ_enc q g
  unfold decQ
  rw [if_neg (by rw [(check_ok h).1]; decide), if_neg (by rw [h2]; decide), h1]
  simp only
  rw [h, if_neg (by simp)]
theorem get_dec : decQ 6 gv = (getQ, 0) := by have := decQ_enc get_check get_wf; rw [get_bytes] at this; exact this
set_option maxHeartbeats 4000000 in
theorem first12_any (w : World) (hE : Env w) : Calls Tryz.prog 8 #[] w fun e w' => e = .returned (.bool true) ∧ Below w.heap.size w w' := by
  have HEN := Lib.hid (qencode_any (q := getQ) (ops_none w) get_sz get_wf hE)
  have HDE := Lib.hid (fun W (hb : Below w.heap.size w W) => qdec_any (gv_byt W) (by decide) 6 (hE.on (hb.trans (((Below.refl _ _).alloc (Nat.le_refl _) _).mono hb.size))))
  rw [get_check, get_bytes] at HEN
  rw [get_dec] at HDE
  unfold DecQ at HDE
  simp only [rqV, getQ, List.length_nil, bE, homeS, u1S] at HDE HEN
  have kc := fun (W : World) (C : Array Value) (n c : Nat) => Lib.run_convert_bytes_const (P := Tryz.prog) W 27 5 C n c Tryz.underlying27 Tryz.underlying5
  have HB0 := Lib.hid (Bxs.start w)
  have HW4 := Lib.hid (writes_any 4)
  have HW6 := Lib.hid (writes_any 6)
  rw [show writesB 4 = true from rfl] at HW4
  rw [show writesB 6 = false from rfl] at HW6
  clear hE
  go_enter Tryz.func8, Tryz.ntmps8
  go_wp2_with fail
  refine HEN.out.mono ?_
  rintro _ w2 ⟨v, rfl, _, hown, hb⟩
  have HO2 := Lib.hid (hown (by trivial))
  have HX2 := Lib.hid (HB0.out.step hb)
  clear hb hown
  go_wp2_with fail
  refine (HDE.out w2 HX2.out.bel).mono ?_
  rintro _ w3 ⟨A3, cap3, b3, rfl, hI, hB, hb⟩
  have HX3 := Lib.hid ((HX2.out.alloc (.cells gvc 5 (8, 9))).step hb)
  have HO3 := Lib.hid ((HO2.out.below ((Below.refl _ _).alloc (Nat.le_refl _) (.cells gvc 5 (8, 9)))).below hb)
  have HX4 := Lib.hid (HX3.out.new 26 #[.int .i64 6, .string ⟨#[]⟩, .string ⟨#[104, 111, 109, 101]⟩, .string ⟨#[117, 49]⟩, .string ⟨#[]⟩, .int .i64 0, .int .i64 0, .slice A3 0 cap3, .int .i64 0, .int .i64 0, .int .i64 0])
  have HT := own_text (HO3.out.below ((Below.refl _ _).alloc (Nat.le_refl _) (.cells #[.int .i64 6, .string ⟨#[]⟩, .string ⟨#[104, 111, 109, 101]⟩, .string ⟨#[117, 49]⟩, .string ⟨#[]⟩, .int .i64 0, .int .i64 0, .slice A3 0 cap3, .int .i64 0, .int .i64 0, .int .i64 0] 26)))
  have b3 := (HX4.out.get 0 rfl).cell 3
  clear hI hB hb
  go_wp2_with fail
  refine (HW4.out _).mono ?_
  rintro _ x5 ⟨rfl, hw⟩
  subst hw
  go_wp2_with fail
  refine (HW6.out _).mono ?_
  rintro _ x6 ⟨rfl, hw⟩
  subst hw
  go_wp2
  go_ret
  exact ⟨rfl, HX4.out.bel⟩
end Go.Proofs.YtphijnkiiokieaaGreatDoor
namespace Go.Proofs.YtphijnkiiokieaaGreatDoor
open Go.RowKit
open Go.Lib hiding intOf
set_option linter.unusedVariables false
set_option linter.unusedSimpArgs false
set_option maxRecDepth 100000
abbrev zedS : ByteArray := ⟨#[122, 101, 100]⟩
theorem nz_zed : nz zedS = true := by decide +kernel
theorem check_extra {q : Rq} (hk : kindB q.k = true) (h : extraB q = true) : checkQ q = 1 := by
  unfold checkQ
  rw [if_neg (by rw [hk]; decide), if_pos (by rw [h]; rfl)]
theorem fields_t (k : Int) (t co u c : ByteArray) (ck cv : Int) (tok mo ti : Int) (xs : List Opn) (hk : kindB k = true) : checkQ ⟨k, zedS, zedS, u, c, ck, cv, xs, tok, mo, ti⟩ = 1 := by
  refine check_extra hk ?_
  have h : (!hT k || !hC k) = true := by rcases kind_cases hk with rfl | rfl | rfl | rfl | rfl | rfl | rfl | rfl | rfl | rfl | rfl <;> decide
  unfold extraB
  simp only [nz_zed]
  cases h1 : hT k
  · simp
  · rw [h1] at h
    have h2 : hC k = false := by simpa using h
    rw [h2]
    simp
theorem fields_u (k : Int) (t co u c : ByteArray) (ck cv : Int) (tok mo ti : Int) (xs : List Opn) (hk : kindB k = true) : checkQ ⟨k, t, co, zedS, c, ck, cv, xs, 5, mo, ti⟩ = 1 := by
  refine check_extra hk ?_
  have h : (!hU k || !hW k) = true := by rcases kind_cases hk with rfl | rfl | rfl | rfl | rfl | rfl | rfl | rfl | rfl | rfl | rfl <;> decide
  unfold extraB
  simp only [nz_zed, show nzI 5 = true from rfl]
  cases h1 : hU k
  · simp
  · rw [h1] at h
    have h2 : hW k = false := by simpa using h
    rw [h2]
    simp
theorem fields_m (k : Int) (t co u c : ByteArray) (ck cv : Int) (tok mo ti : Int) (xs : List Opn) (hk : kindB k = true) : checkQ ⟨k, t, co, u, c, ck, cv, xs, tok, 5, 5⟩ = 1 := by
  refine check_extra hk ?_
  have h : (!hM k || !hI k) = true := by rcases kind_cases hk with rfl | rfl | rfl | rfl | rfl | rfl | rfl | rfl | rfl | rfl | rfl <;> decide
  unfold extraB
  simp only [show nzI 5 = true from rfl]
  cases h1 : hM k
  · simp
  · rw [h1] at h
    have h2 : hI k = false := by simpa using h
    rw [h2]
    simp
theorem fields_k (k : Int) (t co u c : ByteArray) (ck cv : Int) (tok mo ti : Int) (xs : List Opn) : checkQ ⟨77, t, co, u, c, ck, cv, xs, tok, mo, ti⟩ = 12 := by
  unfold checkQ
  rw [if_pos (show kindB 77 = false from rfl)]
/-- A request that was handed over, light. -/
theorem sz_light {q : Rq} (h : lightQ q = true) : SzQ q := by
  obtain ⟨a1, a2, a3, a4, a5, a6⟩ := light_le h
  exact ⟨by omega, by omega, by omega, by omega, fun o ho => ⟨by have := (a6 o ho).1; omega, by have := (a6 o ho).2; omega⟩, by omega⟩
section
variable {w : World} {A : Option Addr} {len cap b off : Nat} {xs : List Opn}
set_option maxHeartbeats 16000000 in
theorem fields_law (h : Ops w A len cap b off xs) (k : Int) (t co u c : ByteArray) (ck cv : Int) (tok mo ti : Int) (hs : len ≤ maxLen) (hE : Env w) (wh : Int) :
    Calls Tryz.prog 6 #[.agg #[.int .i64 k, .string t, .string co, .string u, .string c, .int .i64 ck, .int .i64 cv, .slice A len cap, .int .i64 tok, .int .i64 mo, .int .i64 ti], .int .i64 wh] w fun e w' => e = .returned (.bool true) ∧ Below w.heap.size w w' := by
  have HX0 := Lib.hid ((Bxs.start w).new 26 #[.int .i64 k, .string t, .string co, .string u, .string c, .int .i64 ck, .int .i64 cv, .slice A len cap, .int .i64 tok, .int .i64 mo, .int .i64 ti])
  have HF := Lib.hid (fun W (hb : Below w.heap.size w W) => first12_any W (hE.on hb))
  have HL := Lib.hid (fun W (hb : Below w.heap.size w W) => qlight_raw (h.on hb) k t co u c ck cv tok mo ti hs)
  obtain ⟨lt, hlt⟩ : ∃ r, lightQ ⟨k, t, co, u, c, ck, cv, xs, tok, mo, ti⟩ = r := ⟨_, rfl⟩
  rw [hlt] at HL
  cases lt with
  | false =>
    clear h hE hlt
    go_enter Tryz.func6, Tryz.ntmps6
    go_wp2_with fail
    refine (HF.out _ HX0.out.bel).mono ?_
    rintro _ w1 ⟨rfl, hb⟩
    have HX1 := Lib.hid (HX0.out.step hb)
    clear hb
    have a1_0 := (HX1.out.get 0 rfl).cell 0
    have a1_1 := (HX1.out.get 0 rfl).cell 1
    have a1_2 := (HX1.out.get 0 rfl).cell 2
    have a1_3 := (HX1.out.get 0 rfl).cell 3
    have a1_4 := (HX1.out.get 0 rfl).cell 4
    have a1_5 := (HX1.out.get 0 rfl).cell 5
    have a1_6 := (HX1.out.get 0 rfl).cell 6
    have a1_7 := (HX1.out.get 0 rfl).cell 7
    have a1_8 := (HX1.out.get 0 rfl).cell 8
    have a1_9 := (HX1.out.get 0 rfl).cell 9
    have a1_10 := (HX1.out.get 0 rfl).cell 10
    simp only [List.getElem?_toArray, List.getElem?_cons_zero, List.getElem?_cons_succ] at a1_0 a1_1 a1_2 a1_3 a1_4 a1_5 a1_6 a1_7 a1_8 a1_9 a1_10
    go_wp2_with fail
    refine (HL.out _ HX1.out.bel).mono ?_
    rintro _ w2 ⟨rfl, hb⟩
    have HX2 := Lib.hid (HX1.out.step hb)
    clear hb
    go_wp2_with fail
    refine (HF.out _ HX2.out.bel).mono ?_
    rintro _ w3 ⟨rfl, hb⟩
    have HX3 := Lib.hid (HX2.out.step hb)
    clear hb
    go_wp2
    go_ret
    exact ⟨rfl, HX3.out.bel⟩
  | true =>
    have hz := sz_light hlt
    have HC := Lib.hid (fun W (hb : Below w.heap.size w W) => qcheck_raw (h.on hb) k t co u c ck cv tok mo ti hz (hE.on hb))
    obtain ⟨cr, hcr⟩ : ∃ r, checkQ ⟨k, t, co, u, c, ck, cv, xs, tok, mo, ti⟩ = r := ⟨_, rfl⟩
    rw [hcr] at HC
    by_cases hc0 : cr = 0
    · subst hc0
      have hk : kindB k = true := (check_ok hcr).1
      have C0 := Lib.hid (fun W (hb : Below w.heap.size w W) => fields_t k t co u c ck cv tok mo ti xs hk ▸ qcheck_raw (h.on hb) k zedS zedS u c ck cv tok mo ti ⟨(show zedS.size ≤ 1000000 by decide), (show zedS.size ≤ 1000000 by decide), hz.u, hz.c, hz.ops, hz.n⟩ (hE.on hb))
      have C1 := Lib.hid (fun W (hb : Below w.heap.size w W) => fields_u k t co u c ck cv tok mo ti xs hk ▸ qcheck_raw (h.on hb) k t co zedS c ck cv 5 mo ti ⟨hz.t, hz.co, (show zedS.size ≤ 1000000 by decide), hz.c, hz.ops, hz.n⟩ (hE.on hb))
      have C2 := Lib.hid (fun W (hb : Below w.heap.size w W) => fields_m k t co u c ck cv tok mo ti xs hk ▸ qcheck_raw (h.on hb) k t co u c ck cv tok 5 5 ⟨hz.t, hz.co, hz.u, hz.c, hz.ops, hz.n⟩ (hE.on hb))
      have C3 := Lib.hid (fun W (hb : Below w.heap.size w W) => fields_k k t co u c ck cv tok mo ti xs ▸ qcheck_raw (h.on hb) 77 t co u c ck cv tok mo ti ⟨hz.t, hz.co, hz.u, hz.c, hz.ops, hz.n⟩ (hE.on hb))
      have e0 : bits .and .i64 wh 255 = wh % 256 := i64_low wh 8 (by omega)
      obtain ⟨m, hm, hm4⟩ : ∃ m : Int, (bits .and .i64 wh 255).tmod 4 = m ∧ 0 ≤ m ∧ m < 4 := ⟨_, rfl, by rw [e0, Int.tmod_eq_emod_of_nonneg (by omega)]; omega⟩
      have wm : IntKind.i64.wrap m = m := IntWalk.i64_in _ (by omega)
      clear e0 h hE hlt hcr hk hz
      have ways : m = 0 ∨ m = 1 ∨ m = 2 ∨ m = 3 := by omega
      rcases ways with rfl | rfl | rfl | rfl
      · skip
        go_enter Tryz.func6, Tryz.ntmps6
        go_wp2_with fail
        refine (HF.out _ HX0.out.bel).mono ?_
        rintro _ w1 ⟨rfl, hb⟩
        have HX1 := Lib.hid (HX0.out.step hb)
        clear hb
        have a1_0 := (HX1.out.get 0 rfl).cell 0
        have a1_1 := (HX1.out.get 0 rfl).cell 1
        have a1_2 := (HX1.out.get 0 rfl).cell 2
        have a1_3 := (HX1.out.get 0 rfl).cell 3
        have a1_4 := (HX1.out.get 0 rfl).cell 4
        have a1_5 := (HX1.out.get 0 rfl).cell 5
        have a1_6 := (HX1.out.get 0 rfl).cell 6
        have a1_7 := (HX1.out.get 0 rfl).cell 7
        have a1_8 := (HX1.out.get 0 rfl).cell 8
        have a1_9 := (HX1.out.get 0 rfl).cell 9
        have a1_10 := (HX1.out.get 0 rfl).cell 10
        simp only [List.getElem?_toArray, List.getElem?_cons_zero, List.getElem?_cons_succ] at a1_0 a1_1 a1_2 a1_3 a1_4 a1_5 a1_6 a1_7 a1_8 a1_9 a1_10
        go_wp2_with fail
        refine (HL.out _ HX1.out.bel).mono ?_
        rintro _ w2 ⟨rfl, hb⟩
        have HX2 := Lib.hid (HX1.out.step hb)
        clear hb
        have a2_0 := (HX2.out.get 0 rfl).cell 0
        have a2_1 := (HX2.out.get 0 rfl).cell 1
        have a2_2 := (HX2.out.get 0 rfl).cell 2
        have a2_3 := (HX2.out.get 0 rfl).cell 3
        have a2_4 := (HX2.out.get 0 rfl).cell 4
        have a2_5 := (HX2.out.get 0 rfl).cell 5
        have a2_6 := (HX2.out.get 0 rfl).cell 6
        have a2_7 := (HX2.out.get 0 rfl).cell 7
        have a2_8 := (HX2.out.get 0 rfl).cell 8
        have a2_9 := (HX2.out.get 0 rfl).cell 9
        have a2_10 := (HX2.out.get 0 rfl).cell 10
        simp only [List.getElem?_toArray, List.getElem?_cons_zero, List.getElem?_cons_succ] at a2_0 a2_1 a2_2 a2_3 a2_4 a2_5 a2_6 a2_7 a2_8 a2_9 a2_10
        go_wp2_with fail
        refine (HC.out _ HX2.out.bel).mono ?_
        rintro _ w3 ⟨rfl, hb⟩
        have HX3 := Lib.hid (HX2.out.step hb)
        clear hb
        have a3_0 := (HX3.out.get 0 rfl).cell 0
        have a3_1 := (HX3.out.get 0 rfl).cell 1
        have a3_2 := (HX3.out.get 0 rfl).cell 2
        have a3_3 := (HX3.out.get 0 rfl).cell 3
        have a3_4 := (HX3.out.get 0 rfl).cell 4
        have a3_5 := (HX3.out.get 0 rfl).cell 5
        have a3_6 := (HX3.out.get 0 rfl).cell 6
        have a3_7 := (HX3.out.get 0 rfl).cell 7
        have a3_8 := (HX3.out.get 0 rfl).cell 8
        have a3_9 := (HX3.out.get 0 rfl).cell 9
        have a3_10 := (HX3.out.get 0 rfl).cell 10
        simp only [List.getElem?_toArray, List.getElem?_cons_zero, List.getElem?_cons_succ] at a3_0 a3_1 a3_2 a3_3 a3_4 a3_5 a3_6 a3_7 a3_8 a3_9 a3_10
        have HX4 := Lib.hid (HX3.out.new 26 #[.int .i64 k, .string zedS, .string zedS, .string u, .string c, .int .i64 ck, .int .i64 cv, .slice A len cap, .int .i64 tok, .int .i64 mo, .int .i64 ti])
        go_wp2_with fail
        refine (C0.out _ HX4.out.bel).mono ?_
        rintro _ w4 ⟨rfl, hb⟩
        have HX5 := Lib.hid (HX4.out.step hb)
        clear hb
        go_wp2
        go_ret
        exact ⟨rfl, HX5.out.bel⟩
      · skip
        go_enter Tryz.func6, Tryz.ntmps6
        go_wp2_with fail
        refine (HF.out _ HX0.out.bel).mono ?_
        rintro _ w1 ⟨rfl, hb⟩
        have HX1 := Lib.hid (HX0.out.step hb)
        clear hb
        have a1_0 := (HX1.out.get 0 rfl).cell 0
        have a1_1 := (HX1.out.get 0 rfl).cell 1
        have a1_2 := (HX1.out.get 0 rfl).cell 2
        have a1_3 := (HX1.out.get 0 rfl).cell 3
        have a1_4 := (HX1.out.get 0 rfl).cell 4
        have a1_5 := (HX1.out.get 0 rfl).cell 5
        have a1_6 := (HX1.out.get 0 rfl).cell 6
        have a1_7 := (HX1.out.get 0 rfl).cell 7
        have a1_8 := (HX1.out.get 0 rfl).cell 8
        have a1_9 := (HX1.out.get 0 rfl).cell 9
        have a1_10 := (HX1.out.get 0 rfl).cell 10
        simp only [List.getElem?_toArray, List.getElem?_cons_zero, List.getElem?_cons_succ] at a1_0 a1_1 a1_2 a1_3 a1_4 a1_5 a1_6 a1_7 a1_8 a1_9 a1_10
        go_wp2_with fail
        refine (HL.out _ HX1.out.bel).mono ?_
        rintro _ w2 ⟨rfl, hb⟩
        have HX2 := Lib.hid (HX1.out.step hb)
        clear hb
        have a2_0 := (HX2.out.get 0 rfl).cell 0
        have a2_1 := (HX2.out.get 0 rfl).cell 1
        have a2_2 := (HX2.out.get 0 rfl).cell 2
        have a2_3 := (HX2.out.get 0 rfl).cell 3
        have a2_4 := (HX2.out.get 0 rfl).cell 4
        have a2_5 := (HX2.out.get 0 rfl).cell 5
        have a2_6 := (HX2.out.get 0 rfl).cell 6
        have a2_7 := (HX2.out.get 0 rfl).cell 7
        have a2_8 := (HX2.out.get 0 rfl).cell 8
        have a2_9 := (HX2.out.get 0 rfl).cell 9
        have a2_10 := (HX2.out.get 0 rfl).cell 10
        simp only [List.getElem?_toArray, List.getElem?_cons_zero, List.getElem?_cons_succ] at a2_0 a2_1 a2_2 a2_3 a2_4 a2_5 a2_6 a2_7 a2_8 a2_9 a2_10
        go_wp2_with fail
        refine (HC.out _ HX2.out.bel).mono ?_
        rintro _ w3 ⟨rfl, hb⟩
        have HX3 := Lib.hid (HX2.out.step hb)
        clear hb
        have a3_0 := (HX3.out.get 0 rfl).cell 0
        have a3_1 := (HX3.out.get 0 rfl).cell 1
        have a3_2 := (HX3.out.get 0 rfl).cell 2
        have a3_3 := (HX3.out.get 0 rfl).cell 3
        have a3_4 := (HX3.out.get 0 rfl).cell 4
        have a3_5 := (HX3.out.get 0 rfl).cell 5
        have a3_6 := (HX3.out.get 0 rfl).cell 6
        have a3_7 := (HX3.out.get 0 rfl).cell 7
        have a3_8 := (HX3.out.get 0 rfl).cell 8
        have a3_9 := (HX3.out.get 0 rfl).cell 9
        have a3_10 := (HX3.out.get 0 rfl).cell 10
        simp only [List.getElem?_toArray, List.getElem?_cons_zero, List.getElem?_cons_succ] at a3_0 a3_1 a3_2 a3_3 a3_4 a3_5 a3_6 a3_7 a3_8 a3_9 a3_10
        have HX4 := Lib.hid (HX3.out.new 26 #[.int .i64 k, .string t, .string co, .string zedS, .string c, .int .i64 ck, .int .i64 cv, .slice A len cap, .int .i64 5, .int .i64 mo, .int .i64 ti])
        go_wp2_with fail
        refine (C1.out _ HX4.out.bel).mono ?_
        rintro _ w4 ⟨rfl, hb⟩
        have HX5 := Lib.hid (HX4.out.step hb)
        clear hb
        go_wp2
        go_ret
        exact ⟨rfl, HX5.out.bel⟩
      · skip
        go_enter Tryz.func6, Tryz.ntmps6
        go_wp2_with fail
        refine (HF.out _ HX0.out.bel).mono ?_
        rintro _ w1 ⟨rfl, hb⟩
        have HX1 := Lib.hid (HX0.out.step hb)
        clear hb
        have a1_0 := (HX1.out.get 0 rfl).cell 0
        have a1_1 := (HX1.out.get 0 rfl).cell 1
        have a1_2 := (HX1.out.get 0 rfl).cell 2
        have a1_3 := (HX1.out.get 0 rfl).cell 3
        have a1_4 := (HX1.out.get 0 rfl).cell 4
        have a1_5 := (HX1.out.get 0 rfl).cell 5
        have a1_6 := (HX1.out.get 0 rfl).cell 6
        have a1_7 := (HX1.out.get 0 rfl).cell 7
        have a1_8 := (HX1.out.get 0 rfl).cell 8
        have a1_9 := (HX1.out.get 0 rfl).cell 9
        have a1_10 := (HX1.out.get 0 rfl).cell 10
        simp only [List.getElem?_toArray, List.getElem?_cons_zero, List.getElem?_cons_succ] at a1_0 a1_1 a1_2 a1_3 a1_4 a1_5 a1_6 a1_7 a1_8 a1_9 a1_10
        go_wp2_with fail
        refine (HL.out _ HX1.out.bel).mono ?_
        rintro _ w2 ⟨rfl, hb⟩
        have HX2 := Lib.hid (HX1.out.step hb)
        clear hb
        have a2_0 := (HX2.out.get 0 rfl).cell 0
        have a2_1 := (HX2.out.get 0 rfl).cell 1
        have a2_2 := (HX2.out.get 0 rfl).cell 2
        have a2_3 := (HX2.out.get 0 rfl).cell 3
        have a2_4 := (HX2.out.get 0 rfl).cell 4
        have a2_5 := (HX2.out.get 0 rfl).cell 5
        have a2_6 := (HX2.out.get 0 rfl).cell 6
        have a2_7 := (HX2.out.get 0 rfl).cell 7
        have a2_8 := (HX2.out.get 0 rfl).cell 8
        have a2_9 := (HX2.out.get 0 rfl).cell 9
        have a2_10 := (HX2.out.get 0 rfl).cell 10
        simp only [List.getElem?_toArray, List.getElem?_cons_zero, List.getElem?_cons_succ] at a2_0 a2_1 a2_2 a2_3 a2_4 a2_5 a2_6 a2_7 a2_8 a2_9 a2_10
        go_wp2_with fail
        refine (HC.out _ HX2.out.bel).mono ?_
        rintro _ w3 ⟨rfl, hb⟩
        have HX3 := Lib.hid (HX2.out.step hb)
        clear hb
        have a3_0 := (HX3.out.get 0 rfl).cell 0
        have a3_1 := (HX3.out.get 0 rfl).cell 1
        have a3_2 := (HX3.out.get 0 rfl).cell 2
        have a3_3 := (HX3.out.get 0 rfl).cell 3
        have a3_4 := (HX3.out.get 0 rfl).cell 4
        have a3_5 := (HX3.out.get 0 rfl).cell 5
        have a3_6 := (HX3.out.get 0 rfl).cell 6
        have a3_7 := (HX3.out.get 0 rfl).cell 7
        have a3_8 := (HX3.out.get 0 rfl).cell 8
        have a3_9 := (HX3.out.get 0 rfl).cell 9
        have a3_10 := (HX3.out.get 0 rfl).cell 10
        simp only [List.getElem?_toArray, List.getElem?_cons_zero, List.getElem?_cons_succ] at a3_0 a3_1 a3_2 a3_3 a3_4 a3_5 a3_6 a3_7 a3_8 a3_9 a3_10
        have HX4 := Lib.hid (HX3.out.new 26 #[.int .i64 k, .string t, .string co, .string u, .string c, .int .i64 ck, .int .i64 cv, .slice A len cap, .int .i64 tok, .int .i64 5, .int .i64 5])
        go_wp2_with fail
        refine (C2.out _ HX4.out.bel).mono ?_
        rintro _ w4 ⟨rfl, hb⟩
        have HX5 := Lib.hid (HX4.out.step hb)
        clear hb
        go_wp2
        go_ret
        exact ⟨rfl, HX5.out.bel⟩
      · skip
        go_enter Tryz.func6, Tryz.ntmps6
        go_wp2_with fail
        refine (HF.out _ HX0.out.bel).mono ?_
        rintro _ w1 ⟨rfl, hb⟩
        have HX1 := Lib.hid (HX0.out.step hb)
        clear hb
        have a1_0 := (HX1.out.get 0 rfl).cell 0
        have a1_1 := (HX1.out.get 0 rfl).cell 1
        have a1_2 := (HX1.out.get 0 rfl).cell 2
        have a1_3 := (HX1.out.get 0 rfl).cell 3
        have a1_4 := (HX1.out.get 0 rfl).cell 4
        have a1_5 := (HX1.out.get 0 rfl).cell 5
        have a1_6 := (HX1.out.get 0 rfl).cell 6
        have a1_7 := (HX1.out.get 0 rfl).cell 7
        have a1_8 := (HX1.out.get 0 rfl).cell 8
        have a1_9 := (HX1.out.get 0 rfl).cell 9
        have a1_10 := (HX1.out.get 0 rfl).cell 10
        simp only [List.getElem?_toArray, List.getElem?_cons_zero, List.getElem?_cons_succ] at a1_0 a1_1 a1_2 a1_3 a1_4 a1_5 a1_6 a1_7 a1_8 a1_9 a1_10
        go_wp2_with fail
        refine (HL.out _ HX1.out.bel).mono ?_
        rintro _ w2 ⟨rfl, hb⟩
        have HX2 := Lib.hid (HX1.out.step hb)
        clear hb
        have a2_0 := (HX2.out.get 0 rfl).cell 0
        have a2_1 := (HX2.out.get 0 rfl).cell 1
        have a2_2 := (HX2.out.get 0 rfl).cell 2
        have a2_3 := (HX2.out.get 0 rfl).cell 3
        have a2_4 := (HX2.out.get 0 rfl).cell 4
        have a2_5 := (HX2.out.get 0 rfl).cell 5
        have a2_6 := (HX2.out.get 0 rfl).cell 6
        have a2_7 := (HX2.out.get 0 rfl).cell 7
        have a2_8 := (HX2.out.get 0 rfl).cell 8
        have a2_9 := (HX2.out.get 0 rfl).cell 9
        have a2_10 := (HX2.out.get 0 rfl).cell 10
        simp only [List.getElem?_toArray, List.getElem?_cons_zero, List.getElem?_cons_succ] at a2_0 a2_1 a2_2 a2_3 a2_4 a2_5 a2_6 a2_7 a2_8 a2_9 a2_10
        go_wp2_with fail
        refine (HC.out _ HX2.out.bel).mono ?_
        rintro _ w3 ⟨rfl, hb⟩
        have HX3 := Lib.hid (HX2.out.step hb)
        clear hb
        have a3_0 := (HX3.out.get 0 rfl).cell 0
        have a3_1 := (HX3.out.get 0 rfl).cell 1
        have a3_2 := (HX3.out.get 0 rfl).cell 2
        have a3_3 := (HX3.out.get 0 rfl).cell 3
        have a3_4 := (HX3.out.get 0 rfl).cell 4
        have a3_5 := (HX3.out.get 0 rfl).cell 5
        have a3_6 := (HX3.out.get 0 rfl).cell 6
        have a3_7 := (HX3.out.get 0 rfl).cell 7
        have a3_8 := (HX3.out.get 0 rfl).cell 8
        have a3_9 := (HX3.out.get 0 rfl).cell 9
        have a3_10 := (HX3.out.get 0 rfl).cell 10
        simp only [List.getElem?_toArray, List.getElem?_cons_zero, List.getElem?_cons_succ] at a3_0 a3_1 a3_2 a3_3 a3_4 a3_5 a3_6 a3_7 a3_8 a3_9 a3_10
        have HX4 := Lib.hid (HX3.out.new 26 #[.int .i64 77, .string t, .string co, .string u, .string c, .int .i64 ck, .int .i64 cv, .slice A len cap, .int .i64 tok, .int .i64 mo, .int .i64 ti])
        go_wp2_with fail
        refine (C3.out _ HX4.out.bel).mono ?_
        rintro _ w4 ⟨rfl, hb⟩
        have HX5 := Lib.hid (HX4.out.step hb)
        clear hb
        go_wp2
        go_ret
        exact ⟨rfl, HX5.out.bel⟩
    · have hcb : (cr != 0) = true := by simpa using hc0
      clear h hE hlt hcr hz
      go_enter Tryz.func6, Tryz.ntmps6
      go_wp2_with fail
      refine (HF.out _ HX0.out.bel).mono ?_
      rintro _ w1 ⟨rfl, hb⟩
      have HX1 := Lib.hid (HX0.out.step hb)
      clear hb
      have a1_0 := (HX1.out.get 0 rfl).cell 0
      have a1_1 := (HX1.out.get 0 rfl).cell 1
      have a1_2 := (HX1.out.get 0 rfl).cell 2
      have a1_3 := (HX1.out.get 0 rfl).cell 3
      have a1_4 := (HX1.out.get 0 rfl).cell 4
      have a1_5 := (HX1.out.get 0 rfl).cell 5
      have a1_6 := (HX1.out.get 0 rfl).cell 6
      have a1_7 := (HX1.out.get 0 rfl).cell 7
      have a1_8 := (HX1.out.get 0 rfl).cell 8
      have a1_9 := (HX1.out.get 0 rfl).cell 9
      have a1_10 := (HX1.out.get 0 rfl).cell 10
      simp only [List.getElem?_toArray, List.getElem?_cons_zero, List.getElem?_cons_succ] at a1_0 a1_1 a1_2 a1_3 a1_4 a1_5 a1_6 a1_7 a1_8 a1_9 a1_10
      go_wp2_with fail
      refine (HL.out _ HX1.out.bel).mono ?_
      rintro _ w2 ⟨rfl, hb⟩
      have HX2 := Lib.hid (HX1.out.step hb)
      clear hb
      have a2_0 := (HX2.out.get 0 rfl).cell 0
      have a2_1 := (HX2.out.get 0 rfl).cell 1
      have a2_2 := (HX2.out.get 0 rfl).cell 2
      have a2_3 := (HX2.out.get 0 rfl).cell 3
      have a2_4 := (HX2.out.get 0 rfl).cell 4
      have a2_5 := (HX2.out.get 0 rfl).cell 5
      have a2_6 := (HX2.out.get 0 rfl).cell 6
      have a2_7 := (HX2.out.get 0 rfl).cell 7
      have a2_8 := (HX2.out.get 0 rfl).cell 8
      have a2_9 := (HX2.out.get 0 rfl).cell 9
      have a2_10 := (HX2.out.get 0 rfl).cell 10
      simp only [List.getElem?_toArray, List.getElem?_cons_zero, List.getElem?_cons_succ] at a2_0 a2_1 a2_2 a2_3 a2_4 a2_5 a2_6 a2_7 a2_8 a2_9 a2_10
      go_wp2_with fail
      refine (HC.out _ HX2.out.bel).mono ?_
      rintro _ w3 ⟨rfl, hb⟩
      have HX3 := Lib.hid (HX2.out.step hb)
      clear hb
      go_wp2_with fail
      refine (HF.out _ HX3.out.bel).mono ?_
      rintro _ w4 ⟨rfl, hb⟩
      have HX4 := Lib.hid (HX3.out.step hb)
      clear hb
      go_wp2
      go_ret
      exact ⟨rfl, HX4.out.bel⟩
theorem reqFields_walk (w : World) (hTD : Tabs w ∧ Day.Tab w.heap.size w) (hM : Mx w) (a0 : Int) (w0 : (Lit.int .i64 a0).wf = true) (a1 : ByteArray) (w1 : a1.size ≤ maxLen) (a2 : ByteArray) (w2 : a2.size ≤ maxLen) (a3 : ByteArray) (w3 : a3.size ≤ maxLen) (a4 : ByteArray) (w4 : a4.size ≤ maxLen) (a5 : Int) (w5 : (Lit.int .i64 a5).wf = true) (a6 : Int) (w6 : (Lit.int .i64 a6).wf = true) (A7 : Option Addr) (len7 cap7 : Nat) (S7 : Sh.ok w (Sh.slice 5 shOp) [.slice A7 len7 cap7]) (a8 : Int) (w8 : (Lit.int .i64 a8).wf = true) (a9 : Int) (w9 : (Lit.int .i64 a9).wf = true) (a10 : Int) (w10 : (Lit.int .i64 a10).wf = true) (a11 : Int) (w11 : (Lit.int .i64 a11).wf = true) :
    Calls Tryz.prog 6 #[.agg #[.int .i64 a0, .string a1, .string a2, .string a3, .string a4, .int .i64 a5, .int .i64 a6, .slice A7 len7 cap7, .int .i64 a8, .int .i64 a9, .int .i64 a10], .int .i64 a11] w fun e w' => e = .returned (.bool true) ∧ Below w.heap.size w w' := by
  obtain ⟨b, off, xs, hO, _, hl⟩ := ops_open S7
  exact fields_law hO a0 a1 a2 a3 a4 a5 a6 a8 a9 a10 hl ⟨hTD.1, hM, hTD.2⟩ a11
end
end Go.Proofs.YtphijnkiiokieaaGreatDoor
