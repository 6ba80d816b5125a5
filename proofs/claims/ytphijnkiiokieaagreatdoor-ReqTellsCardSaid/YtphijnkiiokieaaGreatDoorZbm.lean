/- Texts of one proof, joined. -/
import Derived.Test.YtphijnkiiokieaaGreatDoorZbk
import Derived.Test.YtphijnkiiokieaaGreatDoorZbl
import Derived.HandedShaped
import Derived.Test.YtphijnkiiokieaaGreatDoorRows
import Derived.LaidMore
import Derived.PinnedBridge
import Derived.Lay
import Derived.Lib.LaidU8T
import Derived.Stop.Joined
import Derived.Stop.LaidErr
set_option linter.unusedVariables false
set_option linter.unusedSimpArgs false
set_option maxRecDepth 100000
set_option maxHeartbeats 80000000
namespace Go.Proofs.YtphijnkiiokieaaGreatDoor
open Go.RowKit
open Go.Lib hiding intOf
def litO (o : Opn) : Bool:=decide (o.u.size ≤ 60) && decide (o.c.size ≤ 2000)
def lightQ (q : Rq) : Bool:=decide (q.t.size ≤ 60) && decide (q.co.size ≤ 60) && decide (q.u.size ≤ 60) && decide (q.c.size ≤ 2000) && decide (q.ops.length ≤ 20) && q.ops.all litO
theorem light_le {q : Rq} (h : lightQ q = true) : q.t.size ≤ 60 ∧ q.co.size ≤ 60 ∧ q.u.size ≤ 60 ∧ q.c.size ≤ 2000 ∧ q.ops.length ≤ 20 ∧ ∀ o ∈ q.ops,o.u.size ≤ 60 ∧ o.c.size ≤ 2000:=by
 unfold lightQ at h
 simp only [Bool.and_eq_true,decide_eq_true_eq,List.all_eq_true] at h;obtain ⟨⟨⟨⟨⟨a1,a2⟩,a3⟩,a4⟩,a5⟩,a6⟩:=h;refine ⟨a1,a2,a3,a4,a5,fun o ho => ?_⟩;have:=a6 o ho
 unfold litO at this
 simp only [Bool.and_eq_true,decide_eq_true_eq] at this
 exact this
section
variable {w : World} {A B : Option Addr} {len cap capB b b2 off off2 : Nat} {xs : List Opn}
theorem qlight_raw (h : Ops w A len cap b off xs) (k : Int) (t co u c : ByteArray) (ck cv : Int) (tok mo ti : Int) (hs : len ≤ maxLen) :
  Calls Tryz.prog 9 #[.agg #[.int .i64 k,.string t,.string co,.string u,.string c,.int .i64 ck,.int .i64 cv,.slice A len cap,.int .i64 tok,.int .i64 mo,.int .i64 ti]] w fun e w' => e = .returned (.bool (lightQ ⟨k,t,co,u,c,ck,cv,xs,tok,mo,ti⟩)) ∧ Below w.heap.size w w':=by
 have HX0:=Zh ((Bxs.start w).new 26 #[.int .i64 k,.string t,.string co,.string u,.string c,.int .i64 ck,.int .i64 cv,.slice A len cap,.int .i64 tok,.int .i64 mo,.int .i64 ti]);have HI:=Zh h;have hlen:=h.hlen;have hlc:=h.le;obtain ⟨r,hr⟩ : ∃ r,lightQ ⟨k,t,co,u,c,ck,cv,xs,tok,mo,ti⟩ = r:=⟨_,rfl⟩;have HR0:=Zh hr.symm;rw [hr];clear hr h
 by_cases n0 : (t.size : Int) > 60
 ·
  have H0:=Zh (show r = false by rw [HR0.out];unfold lightQ;rw [decide_eq_false (show ¬ t.size ≤ 60 by omega)];simp)
  go_enter Tryz.func9,Tryz.ntmps9
  go_wp2
  go_ret
  exact ⟨by rw [H0.out];rfl,HX0.out.bel⟩
 by_cases n1 : (co.size : Int) > 60
 ·
  have H0:=Zh (show r = false by rw [HR0.out];unfold lightQ;rw [decide_eq_false (show ¬ co.size ≤ 60 by omega)];simp)
  go_enter Tryz.func9,Tryz.ntmps9
  go_wp2
  go_ret
  exact ⟨by rw [H0.out];rfl,HX0.out.bel⟩
 by_cases n2 : (u.size : Int) > 60
 ·
  have H0:=Zh (show r = false by rw [HR0.out];unfold lightQ;rw [decide_eq_false (show ¬ u.size ≤ 60 by omega)];simp)
  go_enter Tryz.func9,Tryz.ntmps9
  go_wp2
  go_ret
  exact ⟨by rw [H0.out];rfl,HX0.out.bel⟩
 by_cases n3 : (c.size : Int) > 2000
 ·
  have H0:=Zh (show r = false by rw [HR0.out];unfold lightQ;rw [decide_eq_false (show ¬ c.size ≤ 2000 by omega)];simp)
  go_enter Tryz.func9,Tryz.ntmps9
  go_wp2
  go_ret
  exact ⟨by rw [H0.out];rfl,HX0.out.bel⟩
 by_cases n4 : (len : Int) > 20
 ·
  have H0:=Zh (show r = false by rw [HR0.out];unfold lightQ;rw [decide_eq_false (show ¬ xs.length ≤ 20 by omega)];simp)
  go_enter Tryz.func9,Tryz.ntmps9
  go_wp2
  go_ret
  exact ⟨by rw [H0.out];rfl,HX0.out.bel⟩
 have HR:=Zh (show r = xs.all litO by
  rw [HR0.out];unfold lightQ
  rw [decide_eq_true (show t.size ≤ 60 by omega),decide_eq_true (show co.size ≤ 60 by omega),decide_eq_true (show u.size ≤ 60 by omega),decide_eq_true (show c.size ≤ 2000 by omega),decide_eq_true (show xs.length ≤ 20 by omega)]
  rfl)
 clear HR0;have hnI : (len : Int) ≤ 20:=by omega
 go_enter Tryz.func9,Tryz.ntmps9
 go_wp2
 go_loopw [3] (fun i wr => ∃ q : Nat,q ≤ len ∧ i = .int .i64 (q : Int) ∧ (xs.take q).all litO = true ∧ Bxs w wr [(w.heap.size,26,#[.int .i64 k,.string t,.string co,.string u,.string c,.int .i64 ck,.int .i64 cv,.slice A len cap,.int .i64 tok,.int .i64 mo,.int .i64 ti])]) (fun i _ => len - (intOf i).toNat)
 case atStart => exact ⟨0,Nat.zero_le _,rfl,by simp,HX0.out⟩
 case round =>
  obtain ⟨q,hq,rfl,hall,hB⟩:=hrel;have HBR:=Zh hB;have HAL:=Zh hall;have x7:=(hB.get 0 rfl).cell 7;clear hB hall
  by_cases hql : q < len
  ·
   obtain ⟨o,ho⟩ : ∃ o,xs[q]? = some o:=⟨xs[q]'(by rw [HI.out.hlen];exact hql),List.getElem?_eq_getElem _⟩;obtain ⟨rfl,hbl⟩:=HI.out.addr (by omega);obtain ⟨c0,c1,c2,c3,c4⟩:=(HI.out.below HBR.out.bel (fun _ => hbl)).cell q o ho;have HSN:=Zh (allO_snoc litO xs q o ho);have HMI:=Zh (allO_miss litO xs q o ho);have hqI : (q : Int) < (len : Int):=by omega
   obtain ⟨od,ou,oc,ok,ov⟩:=o;simp only at c0 c1 c2 c3 c4;clear ho
   by_cases hu : (ou.size : Int) > 60
   ·
    have H0:=Zh (show r = false by rw [HR.out,HMI.out (by unfold litO;rw [decide_eq_false (show ¬ ou.size ≤ 60 by omega)];rfl)]);clear HSN HMI
    go_wp2
    go_ret
    exact ⟨by rw [H0.out];rfl,HBR.out.bel⟩
   by_cases hc : (oc.size : Int) > 2000
   ·
    have H0:=Zh (show r = false by rw [HR.out,HMI.out (by unfold litO;rw [decide_eq_false (show ¬ oc.size ≤ 2000 by omega)];simp)]);clear HSN HMI
    go_wp2
    go_ret
    exact ⟨by rw [H0.out];rfl,HBR.out.bel⟩
   have HN:=Zh (show (xs.take (q + 1)).all litO = true by rw [HSN.out,HAL.out,Bool.true_and];unfold litO;rw [decide_eq_true (show oc.size ≤ 2000 by omega),decide_eq_true (show ou.size ≤ 60 by omega)];rfl);clear HSN HMI
   go_wp2
   go_roundw
   case rel => exact ⟨q + 1,by omega,by go_num,HN.out,HBR.out⟩
   case measure => simp [intOf];omega
  ·
   obtain rfl : q = len:=by omega
   have H0:=Zh (show r = true by rw [HR.out,allO_full litO xs _ (by rw [HI.out.hlen];omega) HAL.out])
   go_wp2
   go_ret
   exact ⟨by rw [H0.out];rfl,HBR.out.bel⟩
theorem neO_same (d : Bool) (u c : ByteArray) (k v : Int) (w : World) : Sem.run Tryz.prog (binOp .neq 43 (.agg #[.bool d,.string u,.string c,.int .i64 k,.int .i64 v]) (.agg #[.bool d,.string u,.string c,.int .i64 k,.int .i64 v])) w = .ok (.bool false) w:=by
 go_simp
theorem qsame_raw (h : Ops w A len cap b off xs) (h2 : Ops w B len capB b2 off2 xs) (hn : len ≤ 1000000) (k : Int) (t co u c : ByteArray) (ck cv : Int) (tok mo ti : Int) :
  Calls Tryz.prog 16 #[.agg #[.int .i64 k,.string t,.string co,.string u,.string c,.int .i64 ck,.int .i64 cv,.slice A len cap,.int .i64 tok,.int .i64 mo,.int .i64 ti],.agg #[.int .i64 k,.string t,.string co,.string u,.string c,.int .i64 ck,.int .i64 cv,.slice B len capB,.int .i64 tok,.int .i64 mo,.int .i64 ti]] w fun e w' => e = .returned (.bool true) ∧ Below w.heap.size w w':=by
 have HX0:=Zh (Bxs.two w 26 26 #[.int .i64 k,.string t,.string co,.string u,.string c,.int .i64 ck,.int .i64 cv,.slice A len cap,.int .i64 tok,.int .i64 mo,.int .i64 ti] #[.int .i64 k,.string t,.string co,.string u,.string c,.int .i64 ck,.int .i64 cv,.slice B len capB,.int .i64 tok,.int .i64 mo,.int .i64 ti]);have HA:=Zh h;have HB:=Zh h2;have hlen:=h.hlen;have hlc:=h.le;have hlc2:=h2.le;have hnI : (len : Int) ≤ 1000000:=by omega
 have hC : ∀ wq,Sem.run Tryz.prog (binOp .neq 23 (.agg #[.int .i64 ck,.int .i64 cv]) (.agg #[.int .i64 ck,.int .i64 cv])) wq = .ok (.bool false) wq:=fun wq => by
  have:=neC_run ck cv ck cv wq
  simpa using this
 clear h h2
 go_enter Tryz.func16,Tryz.ntmps16
 go_wp2
 go_loopw [5] (fun i wr => ∃ q : Nat,q ≤ len ∧ i = .int .i64 (q : Int) ∧ Bxs w wr [(w.heap.size,26,#[.int .i64 k,.string t,.string co,.string u,.string c,.int .i64 ck,.int .i64 cv,.slice A len cap,.int .i64 tok,.int .i64 mo,.int .i64 ti]),(w.heap.size + 1,26,#[.int .i64 k,.string t,.string co,.string u,.string c,.int .i64 ck,.int .i64 cv,.slice B len capB,.int .i64 tok,.int .i64 mo,.int .i64 ti])]) (fun i _ => len - (intOf i).toNat)
 case atStart => exact ⟨0,Nat.zero_le _,rfl,HX0.out⟩
 case round =>
  obtain ⟨q,hq,rfl,hB⟩:=hrel;have HBR:=Zh hB;have x7:=(hB.get 0 rfl).cell 7;have y7:=(hB.get 1 rfl).cell 7;clear hB
  by_cases hql : q < len
  ·
   obtain ⟨o,ho⟩ : ∃ o,xs[q]? = some o:=⟨xs[q]'(by rw [HA.out.hlen];exact hql),List.getElem?_eq_getElem _⟩;obtain ⟨rfl,hbl⟩:=HA.out.addr (by omega);obtain ⟨rfl,hbk⟩:=HB.out.addr (by omega);obtain ⟨c0,c1,c2,c3,c4⟩:=(HA.out.below HBR.out.bel (fun _ => hbl)).cell q o ho;obtain ⟨d0,d1,d2,d3,d4⟩:=(HB.out.below HBR.out.bel (fun _ => hbk)).cell q o ho;have hqI : (q : Int) < (len : Int):=by omega
   obtain ⟨od,ou,oc,ok,ov⟩:=o;simp only at c0 c1 c2 c3 c4 d0 d1 d2 d3 d4;have heq:=fun wq => neO_same od ou oc ok ov wq
   clear ho
   go_wp2_with fail
   go_quiet (fail)
   have HQ:=Zh (HBR.out.drewN nq)
   go_wp2
   go_roundw
   case rel => exact ⟨q + 1,by omega,by go_num,HQ.out⟩
   case measure => simp [intOf];omega
  ·
   obtain rfl : q = len:=by omega
   go_wp2
   go_ret
   exact ⟨rfl,HBR.out.bel⟩
end
def gv : List UInt8:=[4,104,111,109,101,2,117,49]
def gvc : Array Value:=#[.int .u8 4,.int .u8 104,.int .u8 111,.int .u8 109,.int .u8 101,.int .u8 2,.int .u8 117,.int .u8 49]
theorem gv_byt (W : World) : Byt (W.alloc (.cells gvc 5 (8,9))) (some ⟨W.heap.size,0,none⟩) 8 8 W.heap.size 0 gv :=
 ⟨rfl,Nat.le_refl _,by decide,fun _ => ⟨rfl,by simp⟩,fun j u hu => by
  have hc : (W.alloc (.cells gvc 5 (8,9))).cell? ⟨W.heap.size,0 + j,none⟩ = gvc[j]?:=by
   have h : (W.alloc (.cells gvc 5 (8,9))).heap[W.heap.size]? = some (.cells gvc 5 (8,9)):=by
    show (W.heap.push (.cells gvc 5 (8,9)))[W.heap.size]? = _
    simp
   simp only [World.cell?,h,Nat.zero_add]
   rfl
  rw [hc];have : (gv.map bv)[j]? = some (bv u):=by rw [List.getElem?_map,hu];rfl
  simpa [gv,gvc,bv] using this⟩
def homeS : ByteArray:=⟨#[104,111,109,101]⟩
def u1S : ByteArray:=⟨#[117,49]⟩
def getQ : Rq:=⟨6,bE,homeS,u1S,bE,0,0,[],0,0,0⟩
theorem get_check : checkQ getQ = 0:=by decide +kernel
theorem get_bytes : bytesQ getQ = gv:=by decide +kernel
theorem get_wf : WfQ getQ:=⟨by decide,by decide,by decide,by decide,by decide,fun o ho => nomatch ho⟩
theorem get_sz : SzQ getQ:=⟨by decide,by decide,by decide,by decide,fun o ho => (nomatch ho),by decide⟩
theorem decQ_enc {q : Rq} (h : checkQ q = 0) (w : WfQ q) : decQ q.k (bytesQ q) = (q,0):=by
 have g:=gdq_of h w;obtain ⟨h1,h2⟩:=donQ_enc q g
 unfold decQ
 rw [if_neg (by rw [(check_ok h).1];decide),if_neg (by rw [h2];decide),h1]
 simp only
 rw [h,if_neg (by simp)]
theorem get_dec : decQ 6 gv = (getQ,0):=by have:=decQ_enc get_check get_wf;rw [get_bytes] at this;exact this
theorem first12_any (w : World) (hE : Env w) : Calls Tryz.prog 8 #[] w fun e w' => e = .returned (.bool true) ∧ Below w.heap.size w w':=by
 have HEN:=Zh (qencode_any (q:=getQ) (ops_none w) get_sz get_wf hE);have HDE:=Zh (fun W (hb : Below w.heap.size w W) => qdec_any (gv_byt W) (by decide) 6 (hE.on (hb.trans (((Below.refl _ _).alloc (Nat.le_refl _) _).mono hb.size))));rw [get_check,get_bytes] at HEN;rw [get_dec] at HDE
 unfold DecQ at HDE
 simp only [rqV,getQ,List.length_nil,bE,homeS,u1S] at HDE HEN;have kc:=fun (W : World) (C : Array Value) (n c : Nat) => Lib.run_convert_bytes_const (P:=Tryz.prog) W 27 5 C n c Tryz.underlying27 Tryz.underlying5
 have HB0:=Zh (Bxs.start w);have HW4:=Zh (writes_any 4);have HW6:=Zh (writes_any 6);rw [show writesB 4 = true from rfl] at HW4;rw [show writesB 6 = false from rfl] at HW6;clear hE
 go_enter Tryz.func8,Tryz.ntmps8
 go_wp2_with fail
 refine HEN.out.mono ?_;rintro _ w2 ⟨v,rfl,_,hown,hb⟩;have HO2:=Zh (hown (by trivial));have HX2:=Zh (HB0.out.step hb);clear hb hown
 go_wp2_with fail
 refine (HDE.out w2 HX2.out.bel).mono ?_;rintro _ w3 ⟨A3,cap3,b3,rfl,hI,hB,hb⟩;have HX3:=Zh ((HX2.out.alloc (.cells gvc 5 (8,9))).step hb);have HO3:=Zh ((HO2.out.below ((Below.refl _ _).alloc (Nat.le_refl _) (.cells gvc 5 (8,9)))).below hb);have HX4:=Zh (HX3.out.new 26 #[.int .i64 6,.string ⟨#[]⟩,.string ⟨#[104,111,109,101]⟩,.string ⟨#[117,49]⟩,.string ⟨#[]⟩,.int .i64 0,.int .i64 0,.slice A3 0 cap3,.int .i64 0,.int .i64 0,.int .i64 0]);have HT:=own_text (HO3.out.below ((Below.refl _ _).alloc (Nat.le_refl _) (.cells #[.int .i64 6,.string ⟨#[]⟩,.string ⟨#[104,111,109,101]⟩,.string ⟨#[117,49]⟩,.string ⟨#[]⟩,.int .i64 0,.int .i64 0,.slice A3 0 cap3,.int .i64 0,.int .i64 0,.int .i64 0] 26)));have b3:=(HX4.out.get 0 rfl).cell 3;clear hI hB hb
 go_wp2_with fail
 refine (HW4.out _).mono ?_;rintro _ x5 ⟨rfl,hw⟩;subst hw
 go_wp2_with fail
 refine (HW6.out _).mono ?_;rintro _ x6 ⟨rfl,hw⟩;subst hw
 go_wp2
 go_ret
 exact ⟨rfl,HX4.out.bel⟩
theorem sz_light {q : Rq} (h : lightQ q = true) : SzQ q:=by
 obtain ⟨a1,a2,a3,a4,a5,a6⟩:=light_le h
 exact ⟨by omega,by omega,by omega,by omega,fun o ho => ⟨by have:=(a6 o ho).1;omega,by have:=(a6 o ho).2;omega⟩,by omega⟩
section
variable {w : World} {A : Option Addr} {len cap b off : Nat} {xs : List Opn}
end
def Kp (w0 W : World) : Prop:=Below w0.heap.size w0 W
theorem Kp.refl (w : World) : Kp w w:=Below.refl _ _
theorem Kp.alloc {w0 W : World} (h : Kp w0 W) (o : Obj) : Kp w0 (W.alloc o):=Below.alloc h (Below.size h) o
theorem Kp.drew {w0 W : World} (h : Kp w0 W) : Kp w0 W.drew:=Below.drew h
theorem Kp.call {w0 W W' : World} (h : Kp w0 W) (hb : Below W.heap.size W W') : Kp w0 W':=Below.trans h (hb.mono (Below.size h))
theorem decQ_cases (k : Int) (l : List UInt8) : (∃ c,c ≠ 0 ∧ decQ k l = (rqZ,c)) ∨ (decQ k l = ((rawQ k l).1,0) ∧ checkQ (rawQ k l).1 = 0 ∧ bytesQ (rawQ k l).1 = l ∧ (rawQ k l).1.k = k ∧ WfQ (rawQ k l).1 ∧ SzQ (rawQ k l).1):=by
 unfold decQ
 by_cases h1 : kindB k = false
 ·
  rw [if_pos h1];exact .inl ⟨12,by decide,rfl⟩
 ·
  rw [if_neg h1]
  by_cases h2 : donQ k l = false
  ·
   rw [if_pos h2];exact .inl ⟨1,by decide,rfl⟩
  ·
   rw [if_neg h2]
   by_cases h3 : checkQ (rawQ k l).1 ≠ 0
   ·
    rw [if_pos h3];exact .inl ⟨_,h3,rfl⟩
   ·
    rw [if_neg h3];have h4:=rawQ_ok (by simpa using h2)
    exact .inr ⟨rfl,Classical.not_not.1 h3,h4.1,h4.2.2,raw_fit k l⟩
theorem decQ_len (kind : Int) (l : List UInt8) : (decQ kind l).1.ops.length ≤ 1000000:=by
  rcases decQ_cases kind l with ⟨c,_,h⟩ | ⟨h,_,_,_,_,h2⟩
  · rw [h];exact Nat.zero_le _
  · rw [h];exact h2.n
theorem enc_conv {w' : World} {B : Nat} {v : Value} {ck : Int} {BS : List UInt8} (hn : ck ≠ 0 → v = .slice none 0 0) (ho : ck = 0 → Own 5 B w' v BS) (W : World) (h : Kp w' W) : (convert 27 9 v).run Tryz.prog W = .ok (.string ⟨(if ck = 0 then BS else []).toArray⟩) W:=by
  by_cases hc : ck = 0
  · rw [if_pos hc]
    exact own_text ((ho hc).below h)
  · rw [if_neg hc,hn hc]
    exact byt_text (nil_byt W)
theorem qtells_law {w : World} {A B : Option Addr} {len cap b off lenB capB bb ob : Nat} {xs : List Opn} {l : List UInt8} (h : Ops w A len cap b off xs) (k : Int) (t co u c : ByteArray) (ck cv : Int) (tok mo ti : Int) (hs : len ≤ maxLen) (hw : WfQ ⟨k,t,co,u,c,ck,cv,xs,tok,mo,ti⟩) (hEw : Env w) (kd : Int) (hy : Byt w B lenB capB bb ob l) :
    Calls Tryz.prog 3 #[.agg #[.int .i64 k,.string t,.string co,.string u,.string c,.int .i64 ck,.int .i64 cv,.slice A len cap,.int .i64 tok,.int .i64 mo,.int .i64 ti],.int .i64 kd,.slice B lenB capB] w fun r w' => r = .returned (.bool true) ∧ Below w.heap.size w w':=by
  have HX0:=Zh ((Bxs.start w).new 26 #[.int .i64 k,.string t,.string co,.string u,.string c,.int .i64 ck,.int .i64 cv,.slice A len cap,.int .i64 tok,.int .i64 mo,.int .i64 ti]);have HF:=Zh (fun W (hb : Below w.heap.size w W) => first12_any W (hEw.on hb));have HL:=Zh (fun W (hb : Below w.heap.size w W) => qlight_raw (h.on hb) k t co u c ck cv tok mo ti hs);have HE:=Zh (fun W (hb : Below w.heap.size w W) => hEw.on hb);have hyl:=hy.hlen;subst hyl;have HY:=Zh (fun W (hb : Below w.heap.size w W) => hy.on hb);obtain ⟨lt,hlt⟩ : ∃ r,lightQ ⟨k,t,co,u,c,ck,cv,xs,tok,mo,ti⟩ = r:=⟨_,rfl⟩;rw [hlt] at HL
  cases lt with
  | false =>
    clear h hEw hlt hw hy
    go_enter Tryz.func3,Tryz.ntmps3
    go_wp2_with fail
    refine (HF.out _ HX0.out.bel).mono ?_;rintro _ w1 ⟨rfl,hb⟩;have HX1:=Zh (HX0.out.step hb);clear hb;obtain ⟨a_0,a_1,a_2,a_3,a_4,a_5,a_6,a_7,a_8,a_9,a_10⟩:=cs11 (HX1.out.get 0 rfl);simp only [List.getElem?_toArray,List.getElem?_cons_zero,List.getElem?_cons_succ] at a_0 a_1 a_2 a_3 a_4 a_5 a_6 a_7 a_8 a_9 a_10
    go_wp2_with fail
    refine (HL.out _ HX1.out.bel).mono ?_;rintro _ w2 ⟨rfl,hb⟩;have HX2:=Zh (HX1.out.step hb);clear hb
    go_wp2_with fail
    refine (HF.out _ HX2.out.bel).mono ?_;rintro _ w3 ⟨rfl,hb⟩;have HXE:=Zh (HX2.out.step hb);clear hb
    go_wp2
    go_ret
    exact ⟨rfl,HXE.out.bel⟩
  | true =>
    have hz:=sz_light hlt;have HEN:=Zh (fun W (hb : Below w.heap.size w W) => qencode_raw (h.on hb) k t co u c ck cv tok mo ti hz hw (hEw.on hb));have HER:=Zh (fun W (hb : Below w.heap.size w W) => rencode_raw (h.on hb) k t co u c ck cv tok mo ti hz hw);have HCQ:=Zh (fun W (hb : Below w.heap.size w W) => qcheck_raw (h.on hb) k t co u c ck cv tok mo ti hz (hEw.on hb));have HCR:=Zh (fun W (hb : Below w.heap.size w W) => rcheck_raw (h.on hb) k t co u c ck cv tok mo ti hz);obtain ⟨cr,hcr⟩ : ∃ r,checkQ ⟨k,t,co,u,c,ck,cv,xs,tok,mo,ti⟩ = r:=⟨_,rfl⟩;rw [hcr] at HEN HER HCQ HCR;obtain ⟨BS,hBS⟩ : ∃ x,bytesQ ⟨k,t,co,u,c,ck,cv,xs,tok,mo,ti⟩ = x:=⟨_,rfl⟩;rw [hBS] at HEN HER;clear h hEw hlt hz hw hcr hBS
    by_cases hbig : (l.length : Int) > 1500
    · clear hy
      go_enter Tryz.func3,Tryz.ntmps3
      go_wp2_with fail
      refine (HF.out _ HX0.out.bel).mono ?_;rintro _ w1 ⟨rfl,hb⟩;have HX1:=Zh (HX0.out.step hb);clear hb;obtain ⟨a_0,a_1,a_2,a_3,a_4,a_5,a_6,a_7,a_8,a_9,a_10⟩:=cs11 (HX1.out.get 0 rfl);simp only [List.getElem?_toArray,List.getElem?_cons_zero,List.getElem?_cons_succ] at a_0 a_1 a_2 a_3 a_4 a_5 a_6 a_7 a_8 a_9 a_10
      go_wp2_with fail
      refine (HL.out _ HX1.out.bel).mono ?_;rintro _ w2 ⟨rfl,hb⟩;have HX2:=Zh (HX1.out.step hb);clear hb
      go_wp2_with fail
      refine (HF.out _ HX2.out.bel).mono ?_;rintro _ w3 ⟨rfl,hb⟩;have HXE:=Zh (HX2.out.step hb);clear hb
      go_wp2
      go_ret
      exact ⟨rfl,HXE.out.bel⟩
    have hl1 : l.length ≤ 1000000:=by omega
    have HD1:=Zh (fun W (hb : Below w.heap.size w W) => qdec_any (HY.out W hb) hl1 kd (HE.out W hb));have HD2:=Zh (fun W (hb : Below w.heap.size w W) => rdec_any (HY.out W hb) hl1 kd);have hlen:=decQ_len kd l
    unfold DecQ at HD1 HD2
    obtain ⟨⟨⟨k1,t1,o1,u1,c1,a1,b1,xs1,w1,m1,i1⟩,g1⟩,hdr⟩ : ∃ z,decQ kd l = z:=⟨_,rfl⟩;rw [hdr] at HD1 HD2 hlen;simp only [rqV] at HD1 HD2 hlen;have HW1:=Zh (fun W => writes_any kd W);have HW2:=Zh (fun W => rwrites_any kd W);obtain ⟨wb,hwb⟩ : ∃ x,writesB kd = x:=⟨_,rfl⟩;rw [hwb] at HW1 HW2;clear hdr hy hwb
    go_enter Tryz.func3,Tryz.ntmps3
    go_wp2_with fail
    refine (HF.out _ HX0.out.bel).mono ?_;rintro _ z1 ⟨rfl,hb⟩;have HX1:=Zh (HX0.out.step hb);clear hb;obtain ⟨a_0,a_1,a_2,a_3,a_4,a_5,a_6,a_7,a_8,a_9,a_10⟩:=cs11 (HX1.out.get 0 rfl);simp only [List.getElem?_toArray,List.getElem?_cons_zero,List.getElem?_cons_succ] at a_0 a_1 a_2 a_3 a_4 a_5 a_6 a_7 a_8 a_9 a_10
    go_wp2_with fail
    refine (HL.out _ HX1.out.bel).mono ?_;rintro _ z2 ⟨rfl,hb⟩;have HX2:=Zh (HX1.out.step hb);clear hb;obtain ⟨p_0,p_1,p_2,p_3,p_4,p_5,p_6,p_7,p_8,p_9,p_10⟩:=cs11 (HX2.out.get 0 rfl);simp only [List.getElem?_toArray,List.getElem?_cons_zero,List.getElem?_cons_succ] at p_0 p_1 p_2 p_3 p_4 p_5 p_6 p_7 p_8 p_9 p_10
    go_wp2_with fail
    refine (HEN.out _ HX2.out.bel).mono ?_;rintro _ w3 ⟨vx,rfl,hn1,ho1,hb⟩;have HX3:=Zh (HX2.out.step hb);have HCX:=Zh (enc_conv hn1 ho1);clear hn1 ho1 hb;obtain ⟨q_0,q_1,q_2,q_3,q_4,q_5,q_6,q_7,q_8,q_9,q_10⟩:=cs11 (HX3.out.get 0 rfl);simp only [List.getElem?_toArray,List.getElem?_cons_zero,List.getElem?_cons_succ] at q_0 q_1 q_2 q_3 q_4 q_5 q_6 q_7 q_8 q_9 q_10
    go_wp2_with fail
    refine (HER.out _ HX3.out.bel).mono ?_;rintro _ w4 ⟨vy,rfl,hn1,ho1,hb⟩;have HX4:=Zh (HX3.out.step hb);have HCY:=Zh (enc_conv hn1 ho1);have HK4:=Zh (show Kp w3 w4 from hb);clear hn1 ho1 hb;obtain ⟨TX,hTX⟩ : ∃ T,(⟨(if cr = 0 then BS else []).toArray⟩ : ByteArray) = T:=⟨_,rfl⟩;rw [hTX] at HCX HCY;clear hTX
    go_wp2_with fail
    refine (HD1.out _ HX4.out.bel).mono ?_;rintro _ w5 ⟨A3,cap3,b3,rfl,hI,hB,hb⟩;have hbe : Below w5.heap.size w5 (w5.alloc (.cells #[.int .i64 k1,.string t1,.string o1,.string u1,.string c1,.int .i64 a1,.int .i64 b1,.slice A3 xs1.length cap3,.int .i64 w1,.int .i64 m1,.int .i64 i1] 26)):=(Below.refl _ _).alloc (Nat.le_refl _) _;have HX5:=Zh ((HX4.out.step hb).new 26 #[.int .i64 k1,.string t1,.string o1,.string u1,.string c1,.int .i64 a1,.int .i64 b1,.slice A3 xs1.length cap3,.int .i64 w1,.int .i64 m1,.int .i64 i1]);have HI5:=Zh (hI.on hbe);have HK5:=Zh (show Kp w4 (w5.alloc (.cells #[.int .i64 k1,.string t1,.string o1,.string u1,.string c1,.int .i64 a1,.int .i64 b1,.slice A3 xs1.length cap3,.int .i64 w1,.int .i64 m1,.int .i64 i1] 26)) from Kp.alloc (Kp.call (Kp.refl w4) hb) _);clear hI hB hb hbe
    go_wp2_with fail
    refine (HD2.out _ HX5.out.bel).mono ?_;rintro _ w6 ⟨A4,cap4,b4,rfl,hI,hB,hb⟩;have hbe : Below w6.heap.size w6 (w6.alloc (.cells #[.int .i64 k1,.string t1,.string o1,.string u1,.string c1,.int .i64 a1,.int .i64 b1,.slice A4 xs1.length cap4,.int .i64 w1,.int .i64 m1,.int .i64 i1] 26)):=(Below.refl _ _).alloc (Nat.le_refl _) _;have HX6:=Zh ((HX5.out.step hb).new 26 #[.int .i64 k1,.string t1,.string o1,.string u1,.string c1,.int .i64 a1,.int .i64 b1,.slice A4 xs1.length cap4,.int .i64 w1,.int .i64 m1,.int .i64 i1]);have HI6:=Zh (hI.on hbe);have HI5':=Zh ((HI5.out.on hb).on hbe);have HK6:=Zh (show Kp (w5.alloc (.cells #[.int .i64 k1,.string t1,.string o1,.string u1,.string c1,.int .i64 a1,.int .i64 b1,.slice A3 xs1.length cap3,.int .i64 w1,.int .i64 m1,.int .i64 i1] 26)) (w6.alloc (.cells #[.int .i64 k1,.string t1,.string o1,.string u1,.string c1,.int .i64 a1,.int .i64 b1,.slice A4 xs1.length cap4,.int .i64 w1,.int .i64 m1,.int .i64 i1] 26)) from Kp.alloc (Kp.call (Kp.refl _) hb) _);clear hI hB hb hbe;obtain ⟨W6,hW6⟩ : ∃ W,w6.alloc (.cells #[.int .i64 k1,.string t1,.string o1,.string u1,.string c1,.int .i64 a1,.int .i64 b1,.slice A4 xs1.length cap4,.int .i64 w1,.int .i64 m1,.int .i64 i1] 26) = W:=⟨_,rfl⟩;rw [hW6] at HX6 HI6 HI5' HK6;have HS:=Zh (fun W (h : Kp W6 W) => show W.cell? ⟨w.heap.size,0,none⟩ = some (.int .i64 k) ∧ W.cell? ⟨w.heap.size,1,none⟩ = some (.string t) ∧ W.cell? ⟨w.heap.size,2,none⟩ = some (.string co) ∧ W.cell? ⟨w.heap.size,3,none⟩ = some (.string u) ∧ W.cell? ⟨w.heap.size,4,none⟩ = some (.string c) ∧ W.cell? ⟨w.heap.size,5,none⟩ = some (.int .i64 ck) ∧ W.cell? ⟨w.heap.size,6,none⟩ = some (.int .i64 cv) ∧ W.cell? ⟨w.heap.size,7,none⟩ = some (.slice A len cap) ∧ W.cell? ⟨w.heap.size,8,none⟩ = some (.int .i64 tok) ∧ W.cell? ⟨w.heap.size,9,none⟩ = some (.int .i64 mo) ∧ W.cell? ⟨w.heap.size,10,none⟩ = some (.int .i64 ti) ∧ W.cell? ⟨w5.heap.size,0,none⟩ = some (.int .i64 k1) ∧ W.cell? ⟨w5.heap.size,1,none⟩ = some (.string t1) ∧ W.cell? ⟨w5.heap.size,2,none⟩ = some (.string o1) ∧ W.cell? ⟨w5.heap.size,3,none⟩ = some (.string u1) ∧ W.cell? ⟨w5.heap.size,4,none⟩ = some (.string c1) ∧ W.cell? ⟨w5.heap.size,5,none⟩ = some (.int .i64 a1) ∧ W.cell? ⟨w5.heap.size,6,none⟩ = some (.int .i64 b1) ∧ W.cell? ⟨w5.heap.size,7,none⟩ = some (.slice A3 xs1.length cap3) ∧ W.cell? ⟨w5.heap.size,8,none⟩ = some (.int .i64 w1) ∧ W.cell? ⟨w5.heap.size,9,none⟩ = some (.int .i64 m1) ∧ W.cell? ⟨w5.heap.size,10,none⟩ = some (.int .i64 i1) ∧ W.cell? ⟨w6.heap.size,0,none⟩ = some (.int .i64 k1) ∧ W.cell? ⟨w6.heap.size,1,none⟩ = some (.string t1) ∧ W.cell? ⟨w6.heap.size,2,none⟩ = some (.string o1) ∧ W.cell? ⟨w6.heap.size,3,none⟩ = some (.string u1) ∧ W.cell? ⟨w6.heap.size,4,none⟩ = some (.string c1) ∧ W.cell? ⟨w6.heap.size,5,none⟩ = some (.int .i64 a1) ∧ W.cell? ⟨w6.heap.size,6,none⟩ = some (.int .i64 b1) ∧ W.cell? ⟨w6.heap.size,7,none⟩ = some (.slice A4 xs1.length cap4) ∧ W.cell? ⟨w6.heap.size,8,none⟩ = some (.int .i64 w1) ∧ W.cell? ⟨w6.heap.size,9,none⟩ = some (.int .i64 m1) ∧ W.cell? ⟨w6.heap.size,10,none⟩ = some (.int .i64 i1) ∧ (convert 27 9 vx).run Tryz.prog W = .ok (.string TX) W ∧ (convert 27 9 vy).run Tryz.prog W = .ok (.string TX) W from ⟨((HX6.out.step h).get 0 rfl).cell 0,((HX6.out.step h).get 0 rfl).cell 1,((HX6.out.step h).get 0 rfl).cell 2,((HX6.out.step h).get 0 rfl).cell 3,((HX6.out.step h).get 0 rfl).cell 4,((HX6.out.step h).get 0 rfl).cell 5,((HX6.out.step h).get 0 rfl).cell 6,((HX6.out.step h).get 0 rfl).cell 7,((HX6.out.step h).get 0 rfl).cell 8,((HX6.out.step h).get 0 rfl).cell 9,((HX6.out.step h).get 0 rfl).cell 10,((HX6.out.step h).get 1 rfl).cell 0,((HX6.out.step h).get 1 rfl).cell 1,((HX6.out.step h).get 1 rfl).cell 2,((HX6.out.step h).get 1 rfl).cell 3,((HX6.out.step h).get 1 rfl).cell 4,((HX6.out.step h).get 1 rfl).cell 5,((HX6.out.step h).get 1 rfl).cell 6,((HX6.out.step h).get 1 rfl).cell 7,((HX6.out.step h).get 1 rfl).cell 8,((HX6.out.step h).get 1 rfl).cell 9,((HX6.out.step h).get 1 rfl).cell 10,((HX6.out.step h).get 2 rfl).cell 0,((HX6.out.step h).get 2 rfl).cell 1,((HX6.out.step h).get 2 rfl).cell 2,((HX6.out.step h).get 2 rfl).cell 3,((HX6.out.step h).get 2 rfl).cell 4,((HX6.out.step h).get 2 rfl).cell 5,((HX6.out.step h).get 2 rfl).cell 6,((HX6.out.step h).get 2 rfl).cell 7,((HX6.out.step h).get 2 rfl).cell 8,((HX6.out.step h).get 2 rfl).cell 9,((HX6.out.step h).get 2 rfl).cell 10,HCX.out W (Kp.call (Kp.call (Kp.call HK4.out HK5.out) HK6.out) h),HCY.out W (Kp.call (Kp.call HK5.out HK6.out) h)⟩)
    have HC1:=Zh (fun W (h : Kp W6 W) => HCQ.out W (HX6.out.step h).bel);have HC2:=Zh (fun W (h : Kp W6 W) => HCR.out W (HX6.out.step h).bel);have HM1:=Zh (fun W (h : Kp W6 W) => qsame_raw (HI5'.out.on h) (HI6.out.on h) hlen k1 t1 o1 u1 c1 a1 b1 w1 m1 i1);have HBE:=Zh (fun W (h : Kp W6 W) => (HX6.out.step h).bel);clear HX0 HX1 HX2 HX3 HX4 HX5 HI5 HI5' HI6 HK4 HK5 HK6 HCX HCY HEN HER HCQ HCR HL HY HE HF HD1 HD2
    go_wp2_with fail
    try rw [hW6]
    have SS:=HS.out W6.drew (Kp.drew (Kp.refl W6));clear hW6
    go_region_held3 (fun W => W.cell? ⟨w.heap.size,0,none⟩ = some (.int .i64 k) ∧ W.cell? ⟨w.heap.size,1,none⟩ = some (.string t) ∧ W.cell? ⟨w.heap.size,2,none⟩ = some (.string co) ∧ W.cell? ⟨w.heap.size,3,none⟩ = some (.string u) ∧ W.cell? ⟨w.heap.size,4,none⟩ = some (.string c) ∧ W.cell? ⟨w.heap.size,5,none⟩ = some (.int .i64 ck) ∧ W.cell? ⟨w.heap.size,6,none⟩ = some (.int .i64 cv) ∧ W.cell? ⟨w.heap.size,7,none⟩ = some (.slice A len cap) ∧ W.cell? ⟨w.heap.size,8,none⟩ = some (.int .i64 tok) ∧ W.cell? ⟨w.heap.size,9,none⟩ = some (.int .i64 mo) ∧ W.cell? ⟨w.heap.size,10,none⟩ = some (.int .i64 ti) ∧ W.cell? ⟨w5.heap.size,0,none⟩ = some (.int .i64 k1) ∧ W.cell? ⟨w5.heap.size,1,none⟩ = some (.string t1) ∧ W.cell? ⟨w5.heap.size,2,none⟩ = some (.string o1) ∧ W.cell? ⟨w5.heap.size,3,none⟩ = some (.string u1) ∧ W.cell? ⟨w5.heap.size,4,none⟩ = some (.string c1) ∧ W.cell? ⟨w5.heap.size,5,none⟩ = some (.int .i64 a1) ∧ W.cell? ⟨w5.heap.size,6,none⟩ = some (.int .i64 b1) ∧ W.cell? ⟨w5.heap.size,7,none⟩ = some (.slice A3 xs1.length cap3) ∧ W.cell? ⟨w5.heap.size,8,none⟩ = some (.int .i64 w1) ∧ W.cell? ⟨w5.heap.size,9,none⟩ = some (.int .i64 m1) ∧ W.cell? ⟨w5.heap.size,10,none⟩ = some (.int .i64 i1) ∧ W.cell? ⟨w6.heap.size,0,none⟩ = some (.int .i64 k1) ∧ W.cell? ⟨w6.heap.size,1,none⟩ = some (.string t1) ∧ W.cell? ⟨w6.heap.size,2,none⟩ = some (.string o1) ∧ W.cell? ⟨w6.heap.size,3,none⟩ = some (.string u1) ∧ W.cell? ⟨w6.heap.size,4,none⟩ = some (.string c1) ∧ W.cell? ⟨w6.heap.size,5,none⟩ = some (.int .i64 a1) ∧ W.cell? ⟨w6.heap.size,6,none⟩ = some (.int .i64 b1) ∧ W.cell? ⟨w6.heap.size,7,none⟩ = some (.slice A4 xs1.length cap4) ∧ W.cell? ⟨w6.heap.size,8,none⟩ = some (.int .i64 w1) ∧ W.cell? ⟨w6.heap.size,9,none⟩ = some (.int .i64 m1) ∧ W.cell? ⟨w6.heap.size,10,none⟩ = some (.int .i64 i1) ∧ (convert 27 9 vx).run Tryz.prog W = .ok (.string TX) W ∧ (convert 27 9 vy).run Tryz.prog W = .ok (.string TX) W) (exact HS.out _ (by (repeat (first | with_reducible assumption | with_reducible exact Kp.refl _ | with_reducible refine Kp.alloc ?_ _ | with_reducible refine Kp.drew ?_)))) (first
      | (go_at_call 14
         (with_reducible refine (HC1.out _ ?_).mono ?_)
         focus ((repeat (first | with_reducible assumption | with_reducible exact Kp.refl _ | with_reducible refine Kp.alloc ?_ _ | with_reducible refine Kp.drew ?_));done)
         rintro _ z3 ⟨rfl,hb⟩;have hK3 : Kp W6 z3:=Kp.call (by (repeat (first | with_reducible assumption | with_reducible exact Kp.refl _ | with_reducible refine Kp.alloc ?_ _ | with_reducible refine Kp.drew ?_))) hb
         clear hb)
      | (go_at_call 15
         (with_reducible refine (HC2.out _ ?_).mono ?_)
         focus ((repeat (first | with_reducible assumption | with_reducible exact Kp.refl _ | with_reducible refine Kp.alloc ?_ _ | with_reducible refine Kp.drew ?_));done)
         rintro _ z4 ⟨rfl,hb⟩;have hK4 : Kp W6 z4:=Kp.call (by (repeat (first | with_reducible assumption | with_reducible exact Kp.refl _ | with_reducible refine Kp.alloc ?_ _ | with_reducible refine Kp.drew ?_))) hb
         clear hb)
      | (go_at_call 16
         (with_reducible refine (HM1.out _ ?_).mono ?_)
         focus ((repeat (first | with_reducible assumption | with_reducible exact Kp.refl _ | with_reducible refine Kp.alloc ?_ _ | with_reducible refine Kp.drew ?_));done)
         rintro _ z5 ⟨rfl,hb⟩;have hK5 : Kp W6 z5:=Kp.call (by (repeat (first | with_reducible assumption | with_reducible exact Kp.refl _ | with_reducible refine Kp.alloc ?_ _ | with_reducible refine Kp.drew ?_))) hb
         clear hb)
      | (go_at_call 17
         (with_reducible refine (HW1.out _).mono ?_)
         rintro _ _ ⟨rfl,hq⟩;replace hq:=hq.symm
         subst hq)
      | (go_at_call 18
         (with_reducible refine (HW2.out _).mono ?_)
         rintro _ _ ⟨rfl,hq⟩;replace hq:=hq.symm
         subst hq)
      | fail)
    all_goals (
      go_wp2
      go_ret
      refine ⟨rfl,HBE.out _ ?_⟩
      (repeat (first | with_reducible assumption | with_reducible exact Kp.refl _ | with_reducible refine Kp.alloc ?_ _ | with_reducible refine Kp.drew ?_)))
theorem reqTells_walk (w : World) (hTD : Tabs w ∧ Day.Tab w.heap.size w) (hM : Mx w) (a0 : Int) (w0 : (Lit.int .i64 a0).wf = true) (a1 : ByteArray) (w1 : a1.size ≤ maxLen) (a2 : ByteArray) (w2 : a2.size ≤ maxLen) (a3 : ByteArray) (w3 : a3.size ≤ maxLen) (a4 : ByteArray) (w4 : a4.size ≤ maxLen) (a5 : Int) (w5 : (Lit.int .i64 a5).wf = true) (a6 : Int) (w6 : (Lit.int .i64 a6).wf = true) (A7 : Option Addr) (len7 cap7 : Nat) (S7 : Sh.ok w (Sh.slice 5 shOp) [.slice A7 len7 cap7]) (a8 : Int) (w8 : (Lit.int .i64 a8).wf = true) (a9 : Int) (w9 : (Lit.int .i64 a9).wf = true) (a10 : Int) (w10 : (Lit.int .i64 a10).wf = true) (a11 : Int) (w11 : (Lit.int .i64 a11).wf = true) (A12 : Option Addr) (len12 cap12 : Nat) (S12 : Sh.ok w (Sh.slice 1 (Sh.int .u8)) [.slice A12 len12 cap12]) :
    Calls Tryz.prog 3 #[.agg #[.int .i64 a0,.string a1,.string a2,.string a3,.string a4,.int .i64 a5,.int .i64 a6,.slice A7 len7 cap7,.int .i64 a8,.int .i64 a9,.int .i64 a10],.int .i64 a11,.slice A12 len12 cap12] w fun e w' => e = .returned (.bool true) ∧ Below w.heap.size w w':=by
  obtain ⟨b,off,xs,hO,hwf,hl⟩:=ops_open S7;obtain ⟨bb,ob,l,hb⟩:=byt_open S12
  exact qtells_law hO a0 a1 a2 a3 a4 a5 a6 a8 a9 a10 hl ⟨(wf_range w6).2,(wf_range w8).2,(wf_range w9).2,(wf_range w10).2,(wf_range w5).2,hwf⟩ ⟨hTD.1,hM,hTD.2⟩ a11 hb
end Go.Proofs.YtphijnkiiokieaaGreatDoor
namespace Go.Proofs.YtphijnkiiokieaaGreatDoor
open Go.ChangeShapes Go.WideShapes Go.RowKit
variable {H : Type} {enc : TypeId × Value → H}
theorem handed_and_shaped {a : Assume} {C : Checked} {os : Os} {f : FuncId} {fn : Func} {s : ChangeSpec} {conds : List PathCond} {apart fresh handsOn again : Bool} {X : World → Array Value → Prop}
  (hX : ∀ (w w' : World) (args : Array Value),w.heap = w'.heap → X w args → X w' args)
  (own : ownKnob C.prog.godebug = none) (started : os.Started) (noInit : C.prog.inits.idxOf? f = none) (hfn : C.prog.funcs[f]? = some fn)
  (witness : ∃ (w : World) (tape : Tape) (i : Input),w.os = os ∧ (w.forCall tape i).Shaped C.prog ∧ i.vars = [] ∧ Input.okWide C.prog (w.forCall tape i) .any w.heap.size f i ∧
   ((s.pre enc C.prog fn conds apart (w.forCall tape i).memory i.args ∧ X (w.forCall tape i).memory i.args) ∧ sizedMet enc C.prog fn (OpenSpec.ofChange s) apart (w.forCall tape i).memory i.args) ∧ a.holds C.prog (lone (Frame.enter C.prog f i.args .normal) [] (w.forCall tape i)))
  (contract : ∀ (W : World) (base : Nat) (args : Array Value) (ds gs : List (DataW H)) (before : List MemPlace),
   (∀ (j : Nat) t v,fn.params[j]? = some t → args[j]? = some v → Value.okWide C.prog W .any base t v) →
   DataW.Whole enc C.prog fn.params.toList s.vars apart W args.toList ds gs before →
   X W args → W.ShapedOpen C.prog →
   Calls C.prog f args W fun e W' => ∃ v,e = .returned v ∧ s.post enc C.prog fn apart fresh handsOn again W args v W') :
  ReturnsInHanded a C os f .any (fun w args => (s.pre enc C.prog fn conds apart w args ∧ X w args) ∧ sizedMet enc C.prog fn (OpenSpec.ofChange s) apart w args) (s.post enc C.prog fn apart fresh handsOn again):=by
 refine returnsInHanded_of_calls own started noInit witness ?_;intro w tape i _ hsh _ hok hpre _;obtain ⟨_,_,_,fn',hfn',_,_,_,_,hval⟩:=hok;have e : fn' = fn:=Option.some.inj (hfn'.symm.trans hfn);subst e;obtain ⟨⟨⟨ds,gs,before,hw,_⟩,hx⟩,_⟩:=hpre;have hw':=DataW.Whole.of_heap (w':=w.forCall tape i) (by rfl) hw
 refine (contract (w.forCall tape i) w.heap.size i.args ds gs before hval hw' (hX _ _ _ (by rfl) hx) hsh).mono fun e W' ⟨v,he,hp⟩ => ?_
 subst he
 exact ChangeSpec.post_blind hp
theorem mx_of {W : World} (h : W.ShapedOpen Tryz.prog) : Mx W :=
 cell_of_shapedOpen_int h (g:=0) (t:=3) (zero:=#[.int .i64 0]) (of_decide_eq_true (by kernel_rfl)) (by kernel_rfl) rfl (by kernel_rfl) (by kernel_rfl) Tryz.underlying3
abbrev laidL : List (String × DataW Unit) := [("math/bits.deBruijn32tab", Rows.laid_math_bits_deBruijn32tab), ("math/bits.deBruijn64tab", Rows.laid_math_bits_deBruijn64tab), ("internal/strconv.uint64pow10", Rows.laid_internal_strconv_uint64pow10), ("unicode/utf8.acceptRanges", Rows.laid_unicode_utf8_acceptRanges), ("unicode/utf8.first", Rows.laid_unicode_utf8_first)]
theorem door_met (os : Os) (args : Array Value) : laidMetH Tryz.prog laidL ((World.laidAll Tryz.prog os laidL).forCall (fun _ _ => 0) ⟨#[],args,[]⟩).memory:=by
 rw [MakeChecks.laidMetH_plain _ _ _ (by kernel_rfl)];exact laidMet_laidAll _ (by kernel_rfl) (by kernel_rfl)
theorem acc_eq : (Rows.laid_unicode_utf8_acceptRanges : DataW Unit) = Lib.acceptData:=by kernel_rfl
theorem fst_eq : Rows.laid_unicode_utf8_first = Lib.firstData:=Pinned.utf8First_eq
theorem pow_eq : (Rows.laid_internal_strconv_uint64pow10 : DataW Unit) = Lib.tabData .u64 Lib.pow10Tab:=by kernel_rfl
theorem facts {W : World} (h : laidMetH Tryz.prog laidL W) : Tabs W ∧ Day.Tab W.heap.size W:=by
 rw [MakeChecks.laidMetH_plain _ _ _ (by kernel_rfl)] at h; have h1 : laidMet Tryz.prog [("internal/strconv.uint64pow10", Lib.tabData .u64 Lib.pow10Tab), ("unicode/utf8.acceptRanges", Lib.acceptData), ("unicode/utf8.first", Lib.firstData)] W := by rw [← acc_eq, ← fst_eq, ← pow_eq]; exact h.tail.tail
 have h2 : laidMet Tryz.prog [("unicode/utf8.acceptRanges", Lib.acceptData), ("unicode/utf8.first", Lib.firstData)] W := h1.tail
 exact ⟨utf8Tabs_of_readsT (U8Types.of196 Tryz.lays196) ⟨by kernel_rfl,by kernel_rfl,by kernel_rfl,by kernel_rfl,by kernel_rfl,by kernel_rfl,by kernel_rfl⟩ (Lib.laidMet.reads h2 (.tail _ (.head _))) (Lib.laidMet.reads h2 (.head _)),
  Lib.tabBelow_of_tabIs (Lib.tabIs_of_head (g:=3) (t:=196) (e:=89) (n:=20) (by kernel_rfl) (by kernel_rfl) Tryz.underlying196 Tryz.underlying89 (by kernel_rfl) (by kernel_rfl) h1)⟩
end Go.Proofs.YtphijnkiiokieaaGreatDoor
