/- Some names of cards, some cards; a batch of them. -/
import Derived.Test.YtphijnkiiokieaaGreatDoorZr
import Derived.BigQuiet
import Derived.Test.YtphijnkiiokieaaGreatDoorZw
import Derived.Lib.SlBytesConst
import Derived.Lib.SliceRun
/- Requests: light ones, like ones, one handed over. -/
namespace Go.Proofs.YtphijnkiiokieaaGreatDoor
open Go.RowKit
open Go.Lib hiding intOf
set_option linter.unusedVariables false
set_option linter.unusedSimpArgs false
set_option maxRecDepth 100000
def litO (o : Opn) : Bool := decide (o.u.size ≤ 60) && decide (o.c.size ≤ 2000)
def lightQ (q : Rq) : Bool := decide (q.t.size ≤ 60) && decide (q.co.size ≤ 60) && decide (q.u.size ≤ 60) && decide (q.c.size ≤ 2000) && decide (q.ops.length ≤ 20) && q.ops.all litO
theorem light_le {q : Rq} (h : lightQ q = true) : q.t.size ≤ 60 ∧ q.co.size ≤ 60 ∧ q.u.size ≤ 60 ∧ q.c.size ≤ 2000 ∧ q.ops.length ≤ 20 ∧ ∀ o ∈ q.ops, o.u.size ≤ 60 ∧ o.c.size ≤ 2000 := by
  unfold lightQ at h
  simp only [Bool.and_eq_true, decide_eq_true_eq, List.all_eq_true] at h
  obtain ⟨⟨⟨⟨⟨a1, a2⟩, a3⟩, a4⟩, a5⟩, a6⟩ := h
  refine ⟨a1, a2, a3, a4, a5, fun o ho => ?_⟩
  have := a6 o ho
  unfold litO at this
  simp only [Bool.and_eq_true, decide_eq_true_eq] at this
  exact this
section
variable {w : World} {A B : Option Addr} {len cap capB b b2 off off2 : Nat} {xs : List Opn}
set_option maxHeartbeats 8000000 in
theorem qlight_raw (h : Ops w A len cap b off xs) (k : Int) (t co u c : ByteArray) (ck cv : Int) (tok mo ti : Int) (hs : len ≤ maxLen) :
    Calls Tryz.prog 9 #[.agg #[.int .i64 k, .string t, .string co, .string u, .string c, .int .i64 ck, .int .i64 cv, .slice A len cap, .int .i64 tok, .int .i64 mo, .int .i64 ti]] w fun e w' => e = .returned (.bool (lightQ ⟨k, t, co, u, c, ck, cv, xs, tok, mo, ti⟩)) ∧ Below w.heap.size w w' := by
  have HX0 := Lib.hid ((Bxs.start w).new 26 #[.int .i64 k, .string t, .string co, .string u, .string c, .int .i64 ck, .int .i64 cv, .slice A len cap, .int .i64 tok, .int .i64 mo, .int .i64 ti])
  have HI := Lib.hid h
  have hlen := h.hlen
  have hlc := h.le
  obtain ⟨r, hr⟩ : ∃ r, lightQ ⟨k, t, co, u, c, ck, cv, xs, tok, mo, ti⟩ = r := ⟨_, rfl⟩
  have HR0 := Lib.hid hr.symm
  rw [hr]
  clear hr h
  by_cases n0 : (t.size : Int) > 60
  · have H0 := Lib.hid (show r = false by rw [HR0.out]; unfold lightQ; rw [decide_eq_false (show ¬ t.size ≤ 60 by omega)]; simp)
    go_enter Tryz.func9, Tryz.ntmps9
    go_wp2
    go_ret
    exact ⟨by rw [H0.out]; rfl, HX0.out.bel⟩
  by_cases n1 : (co.size : Int) > 60
  · have H0 := Lib.hid (show r = false by rw [HR0.out]; unfold lightQ; rw [decide_eq_false (show ¬ co.size ≤ 60 by omega)]; simp)
    go_enter Tryz.func9, Tryz.ntmps9
    go_wp2
    go_ret
    exact ⟨by rw [H0.out]; rfl, HX0.out.bel⟩
  by_cases n2 : (u.size : Int) > 60
  · have H0 := Lib.hid (show r = false by rw [HR0.out]; unfold lightQ; rw [decide_eq_false (show ¬ u.size ≤ 60 by omega)]; simp)
    go_enter Tryz.func9, Tryz.ntmps9
    go_wp2
    go_ret
    exact ⟨by rw [H0.out]; rfl, HX0.out.bel⟩
  by_cases n3 : (c.size : Int) > 2000
  · have H0 := Lib.hid (show r = false by rw [HR0.out]; unfold lightQ; rw [decide_eq_false (show ¬ c.size ≤ 2000 by omega)]; simp)
    go_enter Tryz.func9, Tryz.ntmps9
    go_wp2
    go_ret
    exact ⟨by rw [H0.out]; rfl, HX0.out.bel⟩
  by_cases n4 : (len : Int) > 20
  · have H0 := Lib.hid (show r = false by rw [HR0.out]; unfold lightQ; rw [decide_eq_false (show ¬ xs.length ≤ 20 by omega)]; simp)
    go_enter Tryz.func9, Tryz.ntmps9
    go_wp2
    go_ret
    exact ⟨by rw [H0.out]; rfl, HX0.out.bel⟩
  have HR := Lib.hid (show r = xs.all litO by
    rw [HR0.out]; unfold lightQ
    rw [decide_eq_true (show t.size ≤ 60 by omega), decide_eq_true (show co.size ≤ 60 by omega), decide_eq_true (show u.size ≤ 60 by omega), decide_eq_true (show c.size ≤ 2000 by omega), decide_eq_true (show xs.length ≤ 20 by omega)]
    rfl)
  clear HR0
  have hnI : (len : Int) ≤ 20 := by omega
  go_enter Tryz.func9, Tryz.ntmps9
  go_wp2
  go_loopw [3] (fun i wr => ∃ q : Nat, q ≤ len ∧ i = .int .i64 (q : Int) ∧ (xs.take q).all litO = true ∧ Bxs w wr [(w.heap.size, 26, #[.int .i64 k, .string t, .string co, .string u, .string c, .int .i64 ck, .int .i64 cv, .slice A len cap, .int .i64 tok, .int .i64 mo, .int .i64 ti])]) (fun i _ => len - (intOf i).toNat)
  case atStart => exact ⟨0, Nat.zero_le _, rfl, by simp, HX0.out⟩
  case round =>
    obtain ⟨q, hq, rfl, hall, hB⟩ := hrel
    have HBR := Lib.hid hB
    have HAL := Lib.hid hall
    have x7 := (hB.get 0 rfl).cell 7
    clear hB hall
    by_cases hql : q < len
    · obtain ⟨o, ho⟩ : ∃ o, xs[q]? = some o := ⟨xs[q]'(by rw [HI.out.hlen]; exact hql), List.getElem?_eq_getElem _⟩
      obtain ⟨rfl, hbl⟩ := HI.out.addr (by omega)
      obtain ⟨c0, c1, c2, c3, c4⟩ := (HI.out.below HBR.out.bel (fun _ => hbl)).cell q o ho
      have HSN := Lib.hid (allO_snoc litO xs q o ho)
      have HMI := Lib.hid (allO_miss litO xs q o ho)
      have hqI : (q : Int) < (len : Int) := by omega
      obtain ⟨od, ou, oc, ok, ov⟩ := o
      simp only at c0 c1 c2 c3 c4
      clear ho
      by_cases hu : (ou.size : Int) > 60
      · have H0 := Lib.hid (show r = false by rw [HR.out, HMI.out (by unfold litO; rw [decide_eq_false (show ¬ ou.size ≤ 60 by omega)]; rfl)])
        clear HSN HMI
        go_wp2
        go_ret
        exact ⟨by rw [H0.out]; rfl, HBR.out.bel⟩
      by_cases hc : (oc.size : Int) > 2000
      · have H0 := Lib.hid (show r = false by rw [HR.out, HMI.out (by unfold litO; rw [decide_eq_false (show ¬ oc.size ≤ 2000 by omega)]; simp)])
        clear HSN HMI
        go_wp2
        go_ret
        exact ⟨by rw [H0.out]; rfl, HBR.out.bel⟩
      have HN := Lib.hid (show (xs.take (q + 1)).all litO = true by rw [HSN.out, HAL.out, Bool.true_and]; unfold litO; rw [decide_eq_true (show oc.size ≤ 2000 by omega), decide_eq_true (show ou.size ≤ 60 by omega)]; rfl)
      clear HSN HMI
      go_wp2
      go_roundw
      case rel => exact ⟨q + 1, by omega, by go_num, HN.out, HBR.out⟩
      case measure => simp [intOf]; omega
    · obtain rfl : q = len := by omega
      have H0 := Lib.hid (show r = true by rw [HR.out, allO_full litO xs _ (by rw [HI.out.hlen]; omega) HAL.out])
      go_wp2
      go_ret
      exact ⟨by rw [H0.out]; rfl, HBR.out.bel⟩
theorem neO_same (d : Bool) (u c : ByteArray) (k v : Int) (w : World) : Sem.run Tryz.prog (binOp .neq 43 (.agg #[.bool d, .string u, .string c, .int .i64 k, .int .i64 v]) (.agg #[.bool d, .string u, .string c, .int .i64 k, .int .i64 v])) w = .ok (.bool false) w := by
  go_simp
set_option maxHeartbeats 8000000 in
theorem qsame_raw (h : Ops w A len cap b off xs) (h2 : Ops w B len capB b2 off2 xs) (hn : len ≤ 1000000) (k : Int) (t co u c : ByteArray) (ck cv : Int) (tok mo ti : Int) :
    Calls Tryz.prog 16 #[.agg #[.int .i64 k, .string t, .string co, .string u, .string c, .int .i64 ck, .int .i64 cv, .slice A len cap, .int .i64 tok, .int .i64 mo, .int .i64 ti], .agg #[.int .i64 k, .string t, .string co, .string u, .string c, .int .i64 ck, .int .i64 cv, .slice B len capB, .int .i64 tok, .int .i64 mo, .int .i64 ti]] w fun e w' => e = .returned (.bool true) ∧ Below w.heap.size w w' := by
  have HX0 := Lib.hid (Bxs.two w 26 26 #[.int .i64 k, .string t, .string co, .string u, .string c, .int .i64 ck, .int .i64 cv, .slice A len cap, .int .i64 tok, .int .i64 mo, .int .i64 ti] #[.int .i64 k, .string t, .string co, .string u, .string c, .int .i64 ck, .int .i64 cv, .slice B len capB, .int .i64 tok, .int .i64 mo, .int .i64 ti])
  have HA := Lib.hid h
  have HB := Lib.hid h2
  have hlen := h.hlen
  have hlc := h.le
  have hlc2 := h2.le
  have hnI : (len : Int) ≤ 1000000 := by omega
  have hC : ∀ wq, Sem.run Tryz.prog (binOp .neq 23 (.agg #[.int .i64 ck, .int .i64 cv]) (.agg #[.int .i64 ck, .int .i64 cv])) wq = .ok (.bool false) wq := fun wq => by
    have := neC_run ck cv ck cv wq
    simpa using this
  clear h h2
  go_enter Tryz.func16, Tryz.ntmps16
  go_wp2
  go_loopw [5] (fun i wr => ∃ q : Nat, q ≤ len ∧ i = .int .i64 (q : Int) ∧ Bxs w wr [(w.heap.size, 26, #[.int .i64 k, .string t, .string co, .string u, .string c, .int .i64 ck, .int .i64 cv, .slice A len cap, .int .i64 tok, .int .i64 mo, .int .i64 ti]), (w.heap.size + 1, 26, #[.int .i64 k, .string t, .string co, .string u, .string c, .int .i64 ck, .int .i64 cv, .slice B len capB, .int .i64 tok, .int .i64 mo, .int .i64 ti])]) (fun i _ => len - (intOf i).toNat)
  case atStart => exact ⟨0, Nat.zero_le _, rfl, HX0.out⟩
  case round =>
    obtain ⟨q, hq, rfl, hB⟩ := hrel
    have HBR := Lib.hid hB
    have x7 := (hB.get 0 rfl).cell 7
    have y7 := (hB.get 1 rfl).cell 7
    clear hB
    by_cases hql : q < len
    · obtain ⟨o, ho⟩ : ∃ o, xs[q]? = some o := ⟨xs[q]'(by rw [HA.out.hlen]; exact hql), List.getElem?_eq_getElem _⟩
      obtain ⟨rfl, hbl⟩ := HA.out.addr (by omega)
      obtain ⟨rfl, hbk⟩ := HB.out.addr (by omega)
      obtain ⟨c0, c1, c2, c3, c4⟩ := (HA.out.below HBR.out.bel (fun _ => hbl)).cell q o ho
      obtain ⟨d0, d1, d2, d3, d4⟩ := (HB.out.below HBR.out.bel (fun _ => hbk)).cell q o ho
      have hqI : (q : Int) < (len : Int) := by omega
      obtain ⟨od, ou, oc, ok, ov⟩ := o
      simp only at c0 c1 c2 c3 c4 d0 d1 d2 d3 d4
      have heq := fun wq => neO_same od ou oc ok ov wq
      clear ho
      go_wp2_with fail
      go_quiet (fail)
      have HQ := Lib.hid (HBR.out.drewN nq)
      go_wp2
      go_roundw
      case rel => exact ⟨q + 1, by omega, by go_num, HQ.out⟩
      case measure => simp [intOf]; omega
    · obtain rfl : q = len := by omega
      go_wp2
      go_ret
      exact ⟨rfl, HBR.out.bel⟩
theorem qlight_any {q : Rq} (h : Ops w A len cap b off q.ops) (hs : len ≤ maxLen) : Calls Tryz.prog 9 #[.agg #[.int .i64 q.k, .string q.t, .string q.co, .string q.u, .string q.c, .int .i64 q.ck, .int .i64 q.cv, .slice A len cap, .int .i64 q.tok, .int .i64 q.mo, .int .i64 q.ti]] w fun e w' => e = .returned (.bool (lightQ q)) ∧ Below w.heap.size w w' := by
  obtain ⟨k, t, co, u, c, ck, cv, ops, tok, mo, ti⟩ := q
  exact qlight_raw h k t co u c ck cv tok mo ti hs
end
end Go.Proofs.YtphijnkiiokieaaGreatDoor
/- first: what the chapter's example fixes. -/
namespace Go.Proofs.YtphijnkiiokieaaGreatDoor
open Go.RowKit
open Go.Lib hiding intOf
set_option linter.unusedVariables false
set_option linter.unusedSimpArgs false
set_option maxRecDepth 100000
def gv : List UInt8 := [4, 104, 111, 109, 101, 2, 117, 49]
def gvc : Array Value := #[.int .u8 4, .int .u8 104, .int .u8 111, .int .u8 109, .int .u8 101, .int .u8 2, .int .u8 117, .int .u8 49]
theorem gv_byt (W : World) : Byt (W.alloc (.cells gvc 5 (8, 9))) (some ⟨W.heap.size, 0, none⟩) 8 8 W.heap.size 0 gv :=
  ⟨rfl, Nat.le_refl _, by decide, fun _ => ⟨rfl, by simp⟩, fun j u hu => by
    have hc : (W.alloc (.cells gvc 5 (8, 9))).cell? ⟨W.heap.size, 0 + j, none⟩ = gvc[j]? := by
      have h : (W.alloc (.cells gvc 5 (8, 9))).heap[W.heap.size]? = some (.cells gvc 5 (8, 9)) := by
        show (W.heap.push (.cells gvc 5 (8, 9)))[W.heap.size]? = _
        simp
      simp only [World.cell?, h, Nat.zero_add]
      rfl
    rw [hc]
    have : (gv.map bv)[j]? = some (bv u) := by rw [List.getElem?_map, hu]; rfl
    simpa [gv, gvc, bv] using this⟩
def homeS : ByteArray := ⟨#[104, 111, 109, 101]⟩
def u1S : ByteArray := ⟨#[117, 49]⟩
def getQ : Rq := ⟨6, bE, homeS, u1S, bE, 0, 0, [], 0, 0, 0⟩
theorem get_check : checkQ getQ = 0 := by decide +kernel
theorem get_bytes : bytesQ getQ = gv := by decide +kernel
theorem get_wf : WfQ getQ := ⟨by decide, by decide, by decide, by decide, by decide, fun o ho => nomatch ho⟩
theorem get_sz : SzQ getQ := ⟨by decide, by decide, by decide, by decide, fun o ho => (nomatch ho), by decide⟩
theorem decQ_enc {q : Rq} (h : checkQ q = 0) (w : WfQ q) : decQ q.k (bytesQ q) = (q, 0) := by
  have g := gdq_of h w
  obtain ⟨h1, h2⟩ := donQ_enc q g
  unfold decQ
  rw [if_neg (by rw [(check_ok h).1]; decide), if_neg (by rw [h2]; decide), h1]
  simp only
  rw [h, if_neg (by simp)]
theorem get_dec : decQ 6 gv = (getQ, 0) := by have := decQ_enc get_check get_wf; rw [get_bytes] at this; exact this
set_option maxHeartbeats 4000000 in
theorem first12_any (w : World) (hE : Env w) : Calls Tryz.prog 8 #[] w fun e w' => e = .returned (.bool true) ∧ Below w.heap.size w w' := by
  have HEN := Lib.hid (qencode_any (q := getQ) (ops_none w) get_sz get_wf hE)
  have HDE := Lib.hid (fun W (hb : Below w.heap.size w W) => qdec_any (gv_byt W) (by decide) 6 (hE.on (hb.trans (((Below.refl _ _).alloc (Nat.le_refl _) _).mono hb.size))))
  rw [get_check, get_bytes] at HEN
  rw [get_dec] at HDE
  unfold DecQ at HDE
  simp only [rqV, getQ, List.length_nil, bE, homeS, u1S] at HDE HEN
  have kc := fun (W : World) (C : Array Value) (n c : Nat) => Lib.run_convert_bytes_const (P := Tryz.prog) W 27 5 C n c Tryz.underlying27 Tryz.underlying5
  have HB0 := Lib.hid (Bxs.start w)
  have HW4 := Lib.hid (writes_any 4)
  have HW6 := Lib.hid (writes_any 6)
  rw [show writesB 4 = true from rfl] at HW4
  rw [show writesB 6 = false from rfl] at HW6
  clear hE
  go_enter Tryz.func8, Tryz.ntmps8
  go_wp2_with fail
  refine HEN.out.mono ?_
  rintro _ w2 ⟨v, rfl, _, hown, hb⟩
  have HO2 := Lib.hid (hown (by trivial))
  have HX2 := Lib.hid (HB0.out.step hb)
  clear hb hown
  go_wp2_with fail
  refine (HDE.out w2 HX2.out.bel).mono ?_
  rintro _ w3 ⟨A3, cap3, b3, rfl, hI, hB, hb⟩
  have HX3 := Lib.hid ((HX2.out.alloc (.cells gvc 5 (8, 9))).step hb)
  have HO3 := Lib.hid ((HO2.out.below ((Below.refl _ _).alloc (Nat.le_refl _) (.cells gvc 5 (8, 9)))).below hb)
  have HX4 := Lib.hid (HX3.out.new 26 #[.int .i64 6, .string ⟨#[]⟩, .string ⟨#[104, 111, 109, 101]⟩, .string ⟨#[117, 49]⟩, .string ⟨#[]⟩, .int .i64 0, .int .i64 0, .slice A3 0 cap3, .int .i64 0, .int .i64 0, .int .i64 0])
  have HT := own_text (HO3.out.below ((Below.refl _ _).alloc (Nat.le_refl _) (.cells #[.int .i64 6, .string ⟨#[]⟩, .string ⟨#[104, 111, 109, 101]⟩, .string ⟨#[117, 49]⟩, .string ⟨#[]⟩, .int .i64 0, .int .i64 0, .slice A3 0 cap3, .int .i64 0, .int .i64 0, .int .i64 0] 26)))
  have b3 := (HX4.out.get 0 rfl).cell 3
  clear hI hB hb
  go_wp2_with fail
  refine (HW4.out _).mono ?_
  rintro _ x5 ⟨rfl, hw⟩
  subst hw
  go_wp2_with fail
  refine (HW6.out _).mono ?_
  rintro _ x6 ⟨rfl, hw⟩
  subst hw
  go_wp2
  go_ret
  exact ⟨rfl, HX4.out.bel⟩
end Go.Proofs.YtphijnkiiokieaaGreatDoor
namespace Go.Proofs.YtphijnkiiokieaaGreatDoor
open Go.RowKit
open Go.Lib hiding intOf
set_option linter.unusedVariables false
set_option linter.unusedSimpArgs false
set_option maxRecDepth 100000
abbrev cardS0 : ByteArray := ⟨#[110, 97, 109, 101, 58, 65, 110, 110, 10]⟩
abbrev cardS1 : ByteArray := ⟨#[110, 97, 109, 101, 58, 66, 111, 98, 10, 116, 101, 108, 58, 43, 52, 57, 51, 48, 49, 50, 51, 52, 53, 54, 10]⟩
abbrev cardS2 : ByteArray := ⟨#[110, 97, 109, 101, 58, 67, 121, 10, 109, 97, 105, 108, 59, 104, 111, 109, 101, 58, 99, 121, 64, 101, 120, 97, 109, 112, 108, 101, 46, 111, 114, 103, 10]⟩
abbrev cardS3 : ByteArray := ⟨#[110, 97, 109, 101, 58, 68, 105, 10, 100, 97, 121, 58, 49, 57, 57, 57, 45, 49, 50, 45, 51, 49, 10, 110, 111, 116, 101, 58, 108, 105, 107, 101, 115, 32, 104, 101, 110, 115, 10]⟩
abbrev cardS4 : ByteArray := ⟨#[110, 97, 109, 101, 58, 69, 100, 10, 111, 114, 103, 58, 67, 111, 111, 112, 10, 116, 101, 108, 59, 99, 101, 108, 108, 58, 48, 49, 54, 48, 49, 50, 51, 52, 53, 54, 55, 10, 109, 97, 105, 108, 59, 119, 111, 114, 107, 58, 101, 100, 64, 99, 111, 111, 112, 46, 101, 120, 97, 109, 112, 108, 101, 46, 111, 114, 103, 10]⟩
def cardN (i : Nat) : ByteArray := if i % 5 = 0 then cardS0 else if i % 5 = 1 then cardS1 else if i % 5 = 2 then cardS2 else if i % 5 = 3 then cardS3 else cardS4
def uidN (i : Nat) : ByteArray := ⟨#[UInt8.ofNat (97 + i % 8)]⟩
def opN (i : Nat) : Opn := ⟨false, uidN i, cardN i, 0, 0⟩
def opsN (n : Nat) : List Opn := (List.range n).map opN
theorem opsN_len (n : Nat) : (opsN n).length = n := by simp [opsN]
theorem opsN_succ (n : Nat) : opsN (n + 1) = opsN n ++ [opN n] := by unfold opsN; rw [List.range_succ, List.map_append]; rfl
theorem cards_is : isC cardS0 = true ∧ isC cardS1 = true ∧ isC cardS2 = true ∧ isC cardS3 = true ∧ isC cardS4 = true := by decide +kernel
theorem cardN_is (i : Nat) : isC (cardN i) = true := by
  obtain ⟨h0, h1, h2, h3, h4⟩ := cards_is
  unfold cardN
  split
  · exact h0
  · split
    · exact h1
    · split
      · exact h2
      · split
        · exact h3
        · exact h4
theorem cardN_size (i : Nat) : (cardN i).size ≤ 900 := isC_size (cardN_is i)
theorem uidN_all : ∀ j : Fin 8, Id.uidB [UInt8.ofNat (97 + j.val)] = true := by decide +kernel
theorem uidN_is (i : Nat) : Id.uidB (uidN i).data.toList = true := uidN_all ⟨i % 8, Nat.mod_lt _ (by decide)⟩
theorem uidN_size (i : Nat) : (uidN i).size ≤ 1 := Nat.le_refl _
theorem opN_ok (i : Nat) : okD (opN i) = true ∧ okU (opN i) = true ∧ okF (opN i) = true := by
  refine ⟨rfl, uidN_is i, ?_⟩
  show (false || isC (cardN i)) && Et.mayB 0 0 = true
  rw [cardN_is i]
  rfl
def batQ (xs : List Opn) : Rq := ⟨7, bE, homeS, bE, bE, 0, 0, xs, 0, 0, 0⟩
theorem all_opsN (p : Opn → Bool) (h : ∀ i, p (opN i) = true) (n : Nat) : (opsN n).all p = true := by
  rw [List.all_eq_true]
  intro x hx
  unfold opsN at hx
  obtain ⟨i, _, rfl⟩ := List.mem_map.1 hx
  exact h i
theorem bat_head (xs : List Opn) : extraB (batQ xs) = false ∧ headN (batQ xs) = true ∧ headF (batQ xs) = true := by
  refine ⟨?_, ?_, ?_⟩
  · show (!hT 7 && nz bE || !hC 7 && nz homeS || !hU 7 && nz bE || !hK 7 && nz bE || !hN 7 && nzC 0 0 || !hO 7 && nzO xs || !hW 7 && nzI 0 || !hM 7 && nzI 0 || !hI 7 && nzI 0) = false
    rw [show hO 7 = true from rfl]
    generalize nzO xs = z
    cases z <;> decide +kernel
  · show ((!hT 7 || Id.nameB bE.data.toList) && (!hC 7 || Id.nameB homeS.data.toList) && (!hU 7 || Id.uidB bE.data.toList)) = true
    decide +kernel
  · show ((!hK 7 || isC bE) && Et.mayB 0 0) = true
    decide +kernel
theorem bat_check (xs : List Opn) (h1 : 1 ≤ xs.length) (h2 : xs.length ≤ 8) : checkQ (batQ xs) = if xs.all okD = false then 1 else if xs.all okU = false then 3 else if xs.all okF = false then 1 else 0 := by
  obtain ⟨a1, a2, a3⟩ := bat_head xs
  have hr : rangQ (batQ xs) = true := by
    show ((!hO 7 || decide (1 ≤ xs.length) && decide (xs.length ≤ 8)) && (!hM 7 || decide (1 ≤ (0 : Int)) && decide ((0 : Int) ≤ 1000)) && decide ((0 : Int) ≤ 0) && decide ((0 : Int) ≤ 0) && decide ((0 : Int) ≤ 1048576)) = true
    rw [decide_eq_true h1, decide_eq_true h2]
    rfl
  unfold checkQ
  rw [if_neg (show ¬ kindB (batQ xs).k = false by show ¬ kindB 7 = false; decide), a1, a2, a3, hr]
  show (if (false || !xs.all okD) = true then 1 else if (true && xs.all okU) = false then 3 else if (true && xs.all okF) = false then 1 else if true = false then 12 else (0 : Int)) = _
  cases xs.all okD <;> cases xs.all okU <;> cases xs.all okF <;> rfl
theorem bat_good (n : Nat) (h1 : 1 ≤ n) (h2 : n ≤ 8) : checkQ (batQ (opsN n)) = 0 := by
  rw [bat_check _ (by rw [opsN_len]; exact h1) (by rw [opsN_len]; exact h2), all_opsN okD (fun i => (opN_ok i).1), all_opsN okU (fun i => (opN_ok i).2.1), all_opsN okF (fun i => (opN_ok i).2.2)]
  rfl
/-- One op in another's place. -/
def setO (n j : Nat) (o : Opn) : List Opn := (opsN n).set j o
theorem setO_len (n j : Nat) (o : Opn) : (setO n j o).length = n := by unfold setO; rw [List.length_set, opsN_len]
theorem setO_all (p : Opn → Bool) (h : ∀ i, p (opN i) = true) (n j : Nat) (o : Opn) (hj : j < n) : (setO n j o).all p = p o := by
  cases hp : p o with
  | true =>
    rw [List.all_eq_true]
    intro x hx
    rcases List.mem_or_eq_of_mem_set hx with h1 | rfl
    · exact List.all_eq_true.1 (all_opsN p h n) x h1
    · exact hp
  | false =>
    rw [List.all_eq_false]
    exact ⟨o, List.mem_of_getElem? (by unfold setO; rw [List.getElem?_set_self (by rw [opsN_len]; exact hj)]), by rw [hp]; decide⟩
theorem setO_check (n j : Nat) (o : Opn) (h1 : j < n) (h2 : n ≤ 8) : checkQ (batQ (setO n j o)) = if okD o = false then 1 else if okU o = false then 3 else if okF o = false then 1 else 0 := by
  rw [bat_check _ (by rw [setO_len]; omega) (by rw [setO_len]; exact h2), setO_all okD (fun i => (opN_ok i).1) n j o h1, setO_all okU (fun i => (opN_ok i).2.1) n j o h1, setO_all okF (fun i => (opN_ok i).2.2) n j o h1]
def badO (m : Int) (j : Nat) : Opn := if m = 0 then ⟨false, bE, cardN j, 0, 0⟩ else if m = 1 then ⟨false, uidN j, ⟨#[120]⟩, 0, 0⟩ else if m = 2 then ⟨true, uidN j, cardN j, 0, 0⟩ else ⟨false, uidN j, cardN j, 9, 0⟩
theorem bad_uid (n j : Nat) (h1 : j < n) (h2 : n ≤ 8) : checkQ (batQ (setO n j ⟨false, bE, cardN j, 0, 0⟩)) = 3 := by
  rw [setO_check n j _ h1 h2, if_neg (by show ¬ (!(false && nz (cardN j))) = false; simp), if_pos (by show Id.uidB bE.data.toList = false; decide +kernel)]
theorem bad_card (n j : Nat) (h1 : j < n) (h2 : n ≤ 8) : checkQ (batQ (setO n j ⟨false, uidN j, ⟨#[120]⟩, 0, 0⟩)) = 1 := by
  rw [setO_check n j _ h1 h2, if_neg (by show ¬ (!(false && nz ⟨#[120]⟩)) = false; simp), if_neg (by show ¬ Id.uidB (uidN j).data.toList = false; rw [uidN_is]; decide), if_pos (by show ((false || isC ⟨#[120]⟩) && Et.mayB 0 0) = false; decide +kernel)]
theorem cards_nz : nz cardS0 = true ∧ nz cardS1 = true ∧ nz cardS2 = true ∧ nz cardS3 = true ∧ nz cardS4 = true := by decide +kernel
theorem cardN_nz (i : Nat) : nz (cardN i) = true := by
  obtain ⟨h0, h1, h2, h3, h4⟩ := cards_nz
  unfold cardN
  split
  · exact h0
  · split
    · exact h1
    · split
      · exact h2
      · split
        · exact h3
        · exact h4
theorem bad_del (n j : Nat) (h1 : j < n) (h2 : n ≤ 8) : checkQ (batQ (setO n j ⟨true, uidN j, cardN j, 0, 0⟩)) = 1 := by
  rw [setO_check n j _ h1 h2, if_pos (by show (!(true && nz (cardN j))) = false; rw [cardN_nz]; rfl)]
theorem bad_cond (n j : Nat) (h1 : j < n) (h2 : n ≤ 8) : checkQ (batQ (setO n j ⟨false, uidN j, cardN j, 9, 0⟩)) = 1 := by
  rw [setO_check n j _ h1 h2, if_neg (by show ¬ (!(false && nz (cardN j))) = false; simp), if_neg (by show ¬ Id.uidB (uidN j).data.toList = false; rw [uidN_is]; decide), if_pos (by show ((false || isC (cardN j)) && Et.mayB 9 0) = false; rw [cardN_is]; rfl)]
theorem bat_sz (n : Nat) (h : n ≤ 8) : SzQ (batQ (opsN n)) := ⟨show bE.size ≤ 1000000 by decide, show homeS.size ≤ 1000000 by decide, show bE.size ≤ 1000000 by decide, show bE.size ≤ 1000000 by decide, fun o ho => by
  obtain ⟨i, _, rfl⟩ := List.mem_map.1 ho
  exact ⟨by have := uidN_size i; show (uidN i).size ≤ _; omega, by have := cardN_size i; show (cardN i).size ≤ _; omega⟩, by show (opsN n).length ≤ _; rw [opsN_len]; omega⟩
theorem set_sz (n j : Nat) (o : Opn) (h : n ≤ 8) (ho : SzO o) : SzQ (batQ (setO n j o)) := ⟨show bE.size ≤ 1000000 by decide, show homeS.size ≤ 1000000 by decide, show bE.size ≤ 1000000 by decide, show bE.size ≤ 1000000 by decide, fun x hx => by
  rcases List.mem_or_eq_of_mem_set hx with h1 | rfl
  · exact (bat_sz n h).ops x h1
  · exact ho, by show (setO n j o).length ≤ _; rw [setO_len]; omega⟩
theorem uidk_any (i : Nat) (hi : i < 8) (w : World) : Calls Tryz.prog 19 #[.int .i64 (i : Int)] w fun e w' => e = .returned (.string (uidN i)) ∧ w' = w := by
  have h : i = 0 ∨ i = 1 ∨ i = 2 ∨ i = 3 ∨ i = 4 ∨ i = 5 ∨ i = 6 ∨ i = 7 := by omega
  rcases h with rfl | rfl | rfl | rfl | rfl | rfl | rfl | rfl
  · have hb : bits .and .i64 0 65535 = 0 := by decide +kernel
    have ht : (0 : Int).tmod 8 = 0 := by decide
    have hw : wrap64 1 = 1 := by decide +kernel
    go_enter Tryz.func19, Tryz.ntmps19
    go_wp2
    go_ret
    exact ⟨by kernel_rfl, rfl⟩
  · have hb : bits .and .i64 1 65535 = 1 := by decide +kernel
    have ht : (1 : Int).tmod 8 = 1 := by decide
    have hw : wrap64 2 = 2 := by decide +kernel
    go_enter Tryz.func19, Tryz.ntmps19
    go_wp2
    go_ret
    exact ⟨by kernel_rfl, rfl⟩
  · have hb : bits .and .i64 2 65535 = 2 := by decide +kernel
    have ht : (2 : Int).tmod 8 = 2 := by decide
    have hw : wrap64 3 = 3 := by decide +kernel
    go_enter Tryz.func19, Tryz.ntmps19
    go_wp2
    go_ret
    exact ⟨by kernel_rfl, rfl⟩
  · have hb : bits .and .i64 3 65535 = 3 := by decide +kernel
    have ht : (3 : Int).tmod 8 = 3 := by decide
    have hw : wrap64 4 = 4 := by decide +kernel
    go_enter Tryz.func19, Tryz.ntmps19
    go_wp2
    go_ret
    exact ⟨by kernel_rfl, rfl⟩
  · have hb : bits .and .i64 4 65535 = 4 := by decide +kernel
    have ht : (4 : Int).tmod 8 = 4 := by decide
    have hw : wrap64 5 = 5 := by decide +kernel
    go_enter Tryz.func19, Tryz.ntmps19
    go_wp2
    go_ret
    exact ⟨by kernel_rfl, rfl⟩
  · have hb : bits .and .i64 5 65535 = 5 := by decide +kernel
    have ht : (5 : Int).tmod 8 = 5 := by decide
    have hw : wrap64 6 = 6 := by decide +kernel
    go_enter Tryz.func19, Tryz.ntmps19
    go_wp2
    go_ret
    exact ⟨by kernel_rfl, rfl⟩
  · have hb : bits .and .i64 6 65535 = 6 := by decide +kernel
    have ht : (6 : Int).tmod 8 = 6 := by decide
    have hw : wrap64 7 = 7 := by decide +kernel
    go_enter Tryz.func19, Tryz.ntmps19
    go_wp2
    go_ret
    exact ⟨by kernel_rfl, rfl⟩
  · have hb : bits .and .i64 7 65535 = 7 := by decide +kernel
    have ht : (7 : Int).tmod 8 = 7 := by decide
    have hw : wrap64 8 = 8 := by decide +kernel
    go_enter Tryz.func19, Tryz.ntmps19
    go_wp2
    go_ret
    exact ⟨by kernel_rfl, rfl⟩
theorem cardk_any (i : Nat) (hi : i < 8) (w : World) : Calls Tryz.prog 20 #[.int .i64 (i : Int)] w fun e w' => e = .returned (.string (cardN i)) ∧ Below w.heap.size w w' := by
  have h : i = 0 ∨ i = 1 ∨ i = 2 ∨ i = 3 ∨ i = 4 ∨ i = 5 ∨ i = 6 ∨ i = 7 := by omega
  rcases h with rfl | rfl | rfl | rfl | rfl | rfl | rfl | rfl
  · have hb : bits .and .i64 0 65535 = 0 := by decide +kernel
    have ht : (0 : Int).tmod 5 = 0 := by decide
    go_enter Tryz.func20, Tryz.ntmps20
    go_wp2
    go_ret
    exact ⟨by kernel_rfl, (Below.refl _ _).alloc (Nat.le_refl _) _⟩
  · have hb : bits .and .i64 1 65535 = 1 := by decide +kernel
    have ht : (1 : Int).tmod 5 = 1 := by decide
    go_enter Tryz.func20, Tryz.ntmps20
    go_wp2
    go_ret
    exact ⟨by kernel_rfl, (Below.refl _ _).alloc (Nat.le_refl _) _⟩
  · have hb : bits .and .i64 2 65535 = 2 := by decide +kernel
    have ht : (2 : Int).tmod 5 = 2 := by decide
    go_enter Tryz.func20, Tryz.ntmps20
    go_wp2
    go_ret
    exact ⟨by kernel_rfl, (Below.refl _ _).alloc (Nat.le_refl _) _⟩
  · have hb : bits .and .i64 3 65535 = 3 := by decide +kernel
    have ht : (3 : Int).tmod 5 = 3 := by decide
    go_enter Tryz.func20, Tryz.ntmps20
    go_wp2
    go_ret
    exact ⟨by kernel_rfl, (Below.refl _ _).alloc (Nat.le_refl _) _⟩
  · have hb : bits .and .i64 4 65535 = 4 := by decide +kernel
    have ht : (4 : Int).tmod 5 = 4 := by decide
    go_enter Tryz.func20, Tryz.ntmps20
    go_wp2
    go_ret
    exact ⟨by kernel_rfl, (Below.refl _ _).alloc (Nat.le_refl _) _⟩
  · have hb : bits .and .i64 5 65535 = 5 := by decide +kernel
    have ht : (5 : Int).tmod 5 = 0 := by decide
    go_enter Tryz.func20, Tryz.ntmps20
    go_wp2
    go_ret
    exact ⟨by kernel_rfl, (Below.refl _ _).alloc (Nat.le_refl _) _⟩
  · have hb : bits .and .i64 6 65535 = 6 := by decide +kernel
    have ht : (6 : Int).tmod 5 = 1 := by decide
    go_enter Tryz.func20, Tryz.ntmps20
    go_wp2
    go_ret
    exact ⟨by kernel_rfl, (Below.refl _ _).alloc (Nat.le_refl _) _⟩
  · have hb : bits .and .i64 7 65535 = 7 := by decide +kernel
    have ht : (7 : Int).tmod 5 = 2 := by decide
    go_enter Tryz.func20, Tryz.ntmps20
    go_wp2
    go_ret
    exact ⟨by kernel_rfl, (Below.refl _ _).alloc (Nat.le_refl _) _⟩
end Go.Proofs.YtphijnkiiokieaaGreatDoor
