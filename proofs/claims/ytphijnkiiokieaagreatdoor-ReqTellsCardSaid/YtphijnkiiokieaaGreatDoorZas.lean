/- Texts of one proof, joined. -/
import Derived.Test.YtphijnkiiokieaaGreatDoorZar
set_option linter.unusedVariables false
set_option linter.unusedSimpArgs false
set_option maxRecDepth 100000
set_option maxHeartbeats 80000000
namespace Go.Proofs.YtphijnkiiokieaaGreatDoor
open Go.RowKit
open Go.Lib hiding intOf
structure Pb (B : Nat) (w0 wr : World) (g : Nat) (t : TypeId) (cs : Array Value) (v : Value) (l : List UInt8) : Prop where
  bx : Blk wr g t cs
  ow : Own 5 B wr v l
  bel : Below w0.heap.size w0 wr
  hB : B ≤ wr.heap.size
section
variable {B : Nat} {w0 wr w' : World} {g : Nat} {t : TypeId} {cs : Array Value} {v v' : Value} {l l' : List UInt8}
theorem Pb.call (h : Pb B w0 wr g t cs v l) (ho : Own 5 B w' v' l') (hb : Below wr.heap.size wr w') : Pb B w0 w' g t cs v' l' :=
  ⟨h.bx.below hb h.bx.lt, ho, h.bel.trans (hb.mono h.bel.size), Nat.le_trans h.hB hb.size⟩
theorem Pb.drew (h : Pb B w0 wr g t cs v l) : Pb B w0 wr.drew g t cs v l := ⟨h.bx.drew, h.ow.below (Below.refl _ _).drew, h.bel.drew, h.hB⟩
theorem Pb.start {w : World} (h : Own 5 B w v l) (hB : B ≤ w.heap.size) (t : TypeId) (cs : Array Value) : Pb B w (w.alloc (.cells cs t)) w.heap.size t cs v l :=
  ⟨Blk.new _ _ _, h.below ((Below.refl _ _).alloc (Nat.le_refl _) _), (Below.refl _ _).alloc (Nat.le_refl _) _, by simp; omega⟩
end
section
variable {B : Nat} {w : World} {v : Value} {l : List UInt8}
theorem putText_on (h : Own 5 B w v l) (hB : B ≤ w.heap.size) (hl : l.length ≤ 600000) (s : ByteArray) (hs : s.size ≤ 1000000) (a : Int) (x : Bool) (hx : (a == 0) = !x) : Calls Tryz.prog 22 #[v, .int .i64 a, .string s] w fun e w' => ∃ v', e = .returned v' ∧ Own 5 B w' v' (l ++ ot x s) ∧ Below w.heap.size w w' := by
  have HO := Zh h; have HT := Zh (p_text_on h hB hl s hs); clear h
  cases x with
  | false =>
    go_enter Tryz.func22, Tryz.ntmps22
    go_wp2
    go_ret
    exact ⟨v, rfl, by show Own 5 B w v (l ++ []); rw [List.append_nil]; exact HO.out, Below.refl _ _⟩
  | true =>
    go_enter Tryz.func22, Tryz.ntmps22
    go_wp2_with fail
    refine HT.out.mono ?_; rintro _ w1 ⟨r1, rfl, h1, h2⟩; have H1 := Zh h1; have H2 := Zh h2; clear h1 h2
    go_wp2
    go_ret
    exact ⟨r1, rfl, H1.out, H2.out⟩
theorem putNum_on (h : Own 5 B w v l) (hB : B ≤ w.heap.size) (hl : l.length ≤ 600000) (n : Int) (hn : n < 9223372036854775808) (a : Int) (x : Bool) (hx : (a == 0) = !x) : Calls Tryz.prog 25 #[v, .int .i64 a, .int .i64 n] w fun e w' => ∃ v', e = .returned v' ∧ Own 5 B w' v' (l ++ on x n) ∧ Below w.heap.size w w' := by
  have HO := Zh h; have HT := Zh (num_on h hB hl n hn); clear h hn
  cases x with
  | false =>
    go_enter Tryz.func25, Tryz.ntmps25
    go_wp2
    go_ret
    exact ⟨v, rfl, by show Own 5 B w v (l ++ []); rw [List.append_nil]; exact HO.out, Below.refl _ _⟩
  | true =>
    go_enter Tryz.func25, Tryz.ntmps25
    go_wp2_with fail
    refine HT.out.mono ?_; rintro _ w1 ⟨r1, rfl, h1, h2⟩; have H1 := Zh h1; have H2 := Zh h2; clear h1 h2
    go_wp2
    go_ret
    exact ⟨r1, rfl, H1.out, H2.out⟩
theorem putCond_on (h : Own 5 B w v l) (hB : B ≤ w.heap.size) (hl : l.length ≤ 500000) (k n : Int) (hk : k < 9223372036854775808) (hn : n < 9223372036854775808) : Calls Tryz.prog 23 #[v, .agg #[.int .i64 k, .int .i64 n]] w fun e w' => ∃ v', e = .returned v' ∧ Own 5 B w' v' (l ++ encC k n) ∧ Below w.heap.size w w' := by
  have HX0 := Zh (Pb.start h hB 23 #[.int .i64 k, .int .i64 n]).drew; have HH := Zh (And.intro hk hn); have l1 := encz_len k hk; have HE := Zh (show l ++ encC k n = l ++ encz k ++ encz n by unfold encC; rw [List.append_assoc]); obtain ⟨L, hL⟩ : ∃ L, l ++ encC k n = L := ⟨_, rfl⟩; rw [hL] at HE ⊢; have q0 : (w.alloc (.cells #[.int .i64 k, .int .i64 n] 23)).drew.cell? ⟨w.heap.size, 0, none⟩ = some (.int .i64 k) := HX0.out.bx.cell 0; have q1 : (w.alloc (.cells #[.int .i64 k, .int .i64 n] 23)).drew.cell? ⟨w.heap.size, 1, none⟩ = some (.int .i64 n) := HX0.out.bx.cell 1; clear h hk hn hL
  go_enter Tryz.func23, Tryz.ntmps23
  go_wp2_with fail
  go_region_held3 (fun W => W.cell? ⟨w.heap.size, 0, none⟩ = some (.int .i64 k) ∧ W.cell? ⟨w.heap.size, 1, none⟩ = some (.int .i64 n)) (refine ⟨?_, ?_⟩ <;> assumption) (first
    | (go_at_call 53
       (with_reducible refine (num_on HX0.out.ow HX0.out.hB (by omega) k HH.out.1).mono ?_)
       rintro _ w1 ⟨r1, rfl, h1, h2⟩; have HX1 := Zh (HX0.out.call h1 h2); have p0 : w1.cell? ⟨w.heap.size, 0, none⟩ = some (.int .i64 k) := HX1.out.bx.cell 0; have p1 : w1.cell? ⟨w.heap.size, 1, none⟩ = some (.int .i64 n) := HX1.out.bx.cell 1
       clear h1 h2)
    | (go_at_call 53
       (with_reducible refine (num_on HX1.out.ow HX1.out.hB (by rw [List.length_append]; omega) n HH.out.2).mono ?_)
       rintro _ w2 ⟨r2, rfl, h1, h2⟩; have HX2 := Zh (HX1.out.call h1 h2); have p0 : w2.cell? ⟨w.heap.size, 0, none⟩ = some (.int .i64 k) := HX2.out.bx.cell 0; have p1 : w2.cell? ⟨w.heap.size, 1, none⟩ = some (.int .i64 n) := HX2.out.bx.cell 1
       clear h1 h2)
    | fail)
  go_wp2
  go_ret
  exact ⟨r2, rfl, by rw [HE.out]; exact HX2.out.ow, HX2.out.bel⟩
end
structure FnO (o : Opn) : Prop where
  u : o.u.size ≤ 100
  c : o.c.size ≤ 5000
  k : o.k < 9223372036854775808
  v : o.v < 9223372036854775808
theorem encO_len {o : Opn} (h : FnO o) : (encO o).length ≤ 5200 := by
  have l1 := encz_len (b01 o.d) (by cases o.d <;> decide); have l2 := enct_len o.u (by have := h.u; omega); have l3 := enct_len o.c (by have := h.c; omega); have l4 := encz_len o.k h.k; have l5 := encz_len o.v h.v; have := h.u; have := h.c
  unfold encO encC
  simp only [List.length_append]
  split
  · simp only [List.length_nil]; omega
  · omega
theorem opsB_len : ∀ (xs : List Opn), (∀ t ∈ xs, FnO t) → (opsB xs).length ≤ 5200 * xs.length
  | [], _ => by simp [opsB]
  | t :: xs, h => by
    have h1 := encO_len (h t List.mem_cons_self); have h2 := opsB_len xs (fun s hs => h s (List.mem_cons_of_mem _ hs))
    unfold opsB at *
    simp only [List.map_cons, List.flatten_cons, List.length_append, List.length_cons]
    omega
theorem opsB_snoc (xs : List Opn) (k : Nat) (t : Opn) (h : xs[k]? = some t) : opsB (xs.take (k + 1)) = opsB (xs.take k) ++ encO t := by
  unfold opsB
  rw [List.take_add_one, h]
  simp
theorem putOps_on {B : Nat} {w : World} {v : Value} {l : List UInt8} {A : Option Addr} {len cap b off : Nat} {xs : List Opn} (ho : Own 5 B w v l) (hB : B ≤ w.heap.size) (hl : l.length ≤ 100000) (h : Ops w A len cap b off xs) (hf : ∀ t ∈ xs, FnO t) (hn : len ≤ 16) :
    Calls Tryz.prog 24 #[v, .slice A len cap] w fun e w' => ∃ v', e = .returned v' ∧ Own 5 B w' v' (l ++ (encz (len : Int) ++ opsB xs)) ∧ Below w.heap.size w w' := by
  have HI := Zh h; have HF := Zh hf; have hlen := h.hlen; have hlc := h.le; have HN := Zh (num_on ho hB (by omega) (len : Int) (by omega)); have hnI : (len : Int) ≤ 16 := by omega
  have l0 := encz_len (len : Int) (by omega); have HE := Zh (show l ++ (encz (len : Int) ++ opsB xs) = l ++ encz (len : Int) ++ opsB xs by rw [List.append_assoc]); obtain ⟨L, hL⟩ : ∃ L, l ++ (encz (len : Int) ++ opsB xs) = L := ⟨_, rfl⟩; rw [hL] at HE ⊢; obtain ⟨HD, hHD⟩ : ∃ z, l ++ encz (len : Int) = z := ⟨_, rfl⟩; have HHL := Zh (show HD.length ≤ 100009 by rw [← hHD, List.length_append]; omega); rw [hHD] at HE HN; clear ho h hf hL hHD l0
  go_enter Tryz.func24, Tryz.ntmps24
  go_wp2_with fail
  refine HN.out.mono ?_; rintro _ w1 ⟨r1, rfl, h1, h2⟩; have H1 := Zh h1; have H2 := Zh h2; clear h1 h2 HN
  go_wp2_with fail
  go_loopw [0, 13] (fun u i wr => ∃ q : Nat, q ≤ len ∧ i = .int .i64 (q : Int) ∧ Own 5 B wr u (HD ++ opsB (xs.take q)) ∧ Below w.heap.size w wr) (fun _ i _ => len - (intOf i).toNat)
  case atStart => exact ⟨0, Nat.zero_le _, rfl, by simpa [opsB] using H1.out, H2.out⟩
  case round =>
    obtain ⟨q, hq, rfl, hO, hbel⟩ := hrel; have HOR := Zh hO; have HBR := Zh hbel; have hBr : B ≤ wr.heap.size := Nat.le_trans hB hbel.size; clear hO hbel
    by_cases hql : q < len
    · obtain ⟨o, ho⟩ : ∃ o, xs[q]? = some o := ⟨xs[q]'(by rw [HI.out.hlen]; exact hql), List.getElem?_eq_getElem _⟩
      obtain ⟨rfl, hbl⟩ := HI.out.addr (by omega); obtain ⟨c0, c1, c2, c3, c4⟩ := (HI.out.below HBR.out (fun _ => hbl)).cell q o ho; have HFT := Zh (HF.out o (List.mem_of_getElem? ho)); have HSN := Zh (opsB_snoc xs q o ho); have HLL := Zh (show (HD ++ opsB (xs.take q)).length ≤ 200000 by
        have h1 := opsB_len (xs.take q) (fun s hs => HF.out s (List.mem_of_mem_take hs)); have h2 := HHL.out; rw [List.length_take] at h1; rw [List.length_append]
        omega)
      have hqI : (q : Int) < (len : Int) := by omega
      obtain ⟨LQ, hLQ⟩ : ∃ z, HD ++ opsB (xs.take q) = z := ⟨_, rfl⟩; have HNX := Zh (show HD ++ opsB (xs.take (q + 1)) = LQ ++ encO o by rw [HSN.out, ← List.append_assoc, hLQ]); rw [hLQ] at HOR HLL; clear hLQ HSN ho; obtain ⟨od, ou, oc, ok, ov⟩ := o; simp only at c0 c1 c2 c3 c4; have HX0 := Zh (Pb.start HOR.out hBr 43 #[.bool od, .string ou, .string oc, .int .i64 ok, .int .i64 ov]).drew; have hou : ou.size ≤ 100 := HFT.out.u; have hoc : oc.size ≤ 5000 := HFT.out.c; have l2 := enct_len ou (by omega); have l3 := enct_len oc (by omega); have hLL : LQ.length ≤ 200000 := HLL.out
      cases od with
      | true =>
        have HE2 := Zh (show LQ ++ encO ⟨true, ou, oc, ok, ov⟩ = LQ ++ encz 1 ++ enct ou ++ encC ok ov by unfold encO b01; simp); have l1 := encz_len 1 (by decide); have q1 : (wr.alloc (.cells #[.bool true, .string ou, .string oc, .int .i64 ok, .int .i64 ov] 43)).drew.cell? ⟨wr.heap.size, 1, none⟩ = some (.string ou) := HX0.out.bx.cell 1
        go_wp2_with fail
        go_region_held3 (fun W => W.cell? ⟨wr.heap.size, 1, none⟩ = some (.string ou)) (assumption) (first
          | (go_at_call 53
             (with_reducible refine (num_on HX0.out.ow HX0.out.hB (by omega) 1 (by decide)).mono ?_)
             rintro _ w2 ⟨r2, rfl, h1, h2⟩; have HX1 := Zh (HX0.out.call h1 h2); have p1 : w2.cell? ⟨wr.heap.size, 1, none⟩ = some (.string ou) := HX1.out.bx.cell 1
             clear h1 h2)
          | (go_at_call 52
             (with_reducible refine (p_text_on HX1.out.ow HX1.out.hB (by simp only [List.length_append]; omega) ou (by omega)).mono ?_)
             rintro _ w3 ⟨r3, rfl, h1, h2⟩; have HX2 := Zh (HX1.out.call h1 h2); have p1 : w3.cell? ⟨wr.heap.size, 1, none⟩ = some (.string ou) := HX2.out.bx.cell 1
             clear h1 h2)
          | fail)
        have HX := Zh HX2.out; have g3 : w3.cell? ⟨wr.heap.size, 3, none⟩ = some (.int .i64 ok) := HX.out.bx.cell 3; have g4 : w3.cell? ⟨wr.heap.size, 4, none⟩ = some (.int .i64 ov) := HX.out.bx.cell 4
        go_wp2_with fail
        refine (putCond_on HX.out.ow HX.out.hB (by simp only [List.length_append]; omega) ok ov HFT.out.k HFT.out.v).mono ?_; rintro _ w9 ⟨r9, rfl, h1, h2⟩; have HX9 := Zh (HX.out.call h1 h2); clear h1 h2
        go_wp2
        go_roundw
        case rel => exact ⟨q + 1, by omega, by go_num, by rw [HNX.out, HE2.out]; exact HX9.out.ow, HBR.out.trans (HX9.out.bel.mono HBR.out.size)⟩
        case measure => simp [intOf]; omega
      | false =>
        have HE2 := Zh (show LQ ++ encO ⟨false, ou, oc, ok, ov⟩ = LQ ++ encz 0 ++ enct ou ++ enct oc ++ encC ok ov by unfold encO b01; simp); have l1 := encz_len 0 (by decide); have q1 : (wr.alloc (.cells #[.bool false, .string ou, .string oc, .int .i64 ok, .int .i64 ov] 43)).drew.cell? ⟨wr.heap.size, 1, none⟩ = some (.string ou) := HX0.out.bx.cell 1; have q2 : (wr.alloc (.cells #[.bool false, .string ou, .string oc, .int .i64 ok, .int .i64 ov] 43)).drew.cell? ⟨wr.heap.size, 2, none⟩ = some (.string oc) := HX0.out.bx.cell 2
        go_wp2_with fail
        go_region_held3 (fun W => W.cell? ⟨wr.heap.size, 1, none⟩ = some (.string ou) ∧ W.cell? ⟨wr.heap.size, 2, none⟩ = some (.string oc)) (refine ⟨?_, ?_⟩ <;> assumption) (first
          | (go_at_call 53
             (with_reducible refine (num_on HX0.out.ow HX0.out.hB (by omega) 0 (by decide)).mono ?_)
             rintro _ w2 ⟨r2, rfl, h1, h2⟩; have HX1 := Zh (HX0.out.call h1 h2); have p1 : w2.cell? ⟨wr.heap.size, 1, none⟩ = some (.string ou) := HX1.out.bx.cell 1; have p2 : w2.cell? ⟨wr.heap.size, 2, none⟩ = some (.string oc) := HX1.out.bx.cell 2
             clear h1 h2)
          | (go_at_call 52
             (with_reducible refine (p_text_on HX1.out.ow HX1.out.hB (by simp only [List.length_append]; omega) ou (by omega)).mono ?_)
             rintro _ w3 ⟨r3, rfl, h1, h2⟩; have HX2 := Zh (HX1.out.call h1 h2); have p1 : w3.cell? ⟨wr.heap.size, 1, none⟩ = some (.string ou) := HX2.out.bx.cell 1; have p2 : w3.cell? ⟨wr.heap.size, 2, none⟩ = some (.string oc) := HX2.out.bx.cell 2
             clear h1 h2)
          | (go_at_call 52
             (with_reducible refine (p_text_on HX2.out.ow HX2.out.hB (by simp only [List.length_append]; omega) oc (by omega)).mono ?_)
             rintro _ w4 ⟨r4, rfl, h1, h2⟩; have HX3 := Zh (HX2.out.call h1 h2); have p1 : w4.cell? ⟨wr.heap.size, 1, none⟩ = some (.string ou) := HX3.out.bx.cell 1; have p2 : w4.cell? ⟨wr.heap.size, 2, none⟩ = some (.string oc) := HX3.out.bx.cell 2
             clear h1 h2)
          | fail)
        have HX := Zh HX3.out; have g3 : w4.cell? ⟨wr.heap.size, 3, none⟩ = some (.int .i64 ok) := HX.out.bx.cell 3; have g4 : w4.cell? ⟨wr.heap.size, 4, none⟩ = some (.int .i64 ov) := HX.out.bx.cell 4
        go_wp2_with fail
        refine (putCond_on HX.out.ow HX.out.hB (by simp only [List.length_append]; omega) ok ov HFT.out.k HFT.out.v).mono ?_; rintro _ w9 ⟨r9, rfl, h1, h2⟩; have HX9 := Zh (HX.out.call h1 h2); clear h1 h2
        go_wp2
        go_roundw
        case rel => exact ⟨q + 1, by omega, by go_num, by rw [HNX.out, HE2.out]; exact HX9.out.ow, HBR.out.trans (HX9.out.bel.mono HBR.out.size)⟩
        case measure => simp [intOf]; omega
    · obtain rfl : q = len := by omega
      have hall : xs.take q = xs := List.take_of_length_le (by rw [HI.out.hlen]; omega); have HFI := Zh (show Own 5 B wr u0 L by rw [HE.out, ← hall]; exact HOR.out); clear hall
      go_wp2
      go_ret
      exact ⟨u0, rfl, HFI.out, HBR.out⟩
theorem not_of {a : Int} {x : Bool} (h : (a != 0) = x) : (a == 0) = !x := by
  rw [← h]
  simp [bne]
structure FnQ (q : Rq) : Prop where
  t : q.t.size ≤ 20000
  co : q.co.size ≤ 20000
  u : q.u.size ≤ 20000
  c : q.c.size ≤ 20000
  ck : q.ck < 9223372036854775808
  cv : q.cv < 9223372036854775808
  ops : ∀ o ∈ q.ops, FnO o
  n : q.ops.length ≤ 16
  tok : q.tok < 9223372036854775808
  mo : q.mo < 9223372036854775808
  ti : q.ti < 9223372036854775808
theorem fnq_of {q : Rq} (h : checkQ q = 0) (w : WfQ q) : FnQ q := by
  have g := gdq_of h w; obtain ⟨h1, h2, h3, h4, h5, h6, h7, h8⟩ := check_ok h; rw [List.all_eq_true] at h3 h5 h7; refine ⟨g.t, g.co, g.u, g.c, w.ck, w.cv, fun o ho => ?_, g.n, w.tok, w.mo, w.ti⟩; have g1 := h5 o ho; have g2 := h7 o ho; have g3 := h3 o ho
  unfold okU at g1
  unfold okF at g2
  unfold okD at g3
  simp only [Bool.and_eq_true, Bool.or_eq_true] at g2; refine ⟨by have := uid_size g1; omega, ?_, (w.ops o ho).k, (w.ops o ho).v⟩
  rcases g2.1 with e | e
  · have : o.c = bE := nz_false (by simpa [e] using g3)
    rw [this]; exact Nat.zero_le _
  · have := isC_size e; omega
section
variable {w : World} {A : Option Addr} {len cap b off : Nat} {xs : List Opn}
theorem qencode_raw (h : Ops w A len cap b off xs) (k : Int) (t co u c : ByteArray) (ck cv : Int) (tok mo ti : Int) (hz : SzQ ⟨k, t, co, u, c, ck, cv, xs, tok, mo, ti⟩) (hw : WfQ ⟨k, t, co, u, c, ck, cv, xs, tok, mo, ti⟩) (hE : Env w) :
    Calls Tryz.prog 10 #[.agg #[.int .i64 k, .string t, .string co, .string u, .string c, .int .i64 ck, .int .i64 cv, .slice A len cap, .int .i64 tok, .int .i64 mo, .int .i64 ti]] w fun e w' => ∃ v, e = .returned (.tuple #[v, .int .i64 (checkQ ⟨k, t, co, u, c, ck, cv, xs, tok, mo, ti⟩)]) ∧ (checkQ ⟨k, t, co, u, c, ck, cv, xs, tok, mo, ti⟩ ≠ 0 → v = .slice none 0 0) ∧ (checkQ ⟨k, t, co, u, c, ck, cv, xs, tok, mo, ti⟩ = 0 → Own 5 w.heap.size w' v (bytesQ ⟨k, t, co, u, c, ck, cv, xs, tok, mo, ti⟩)) ∧ Below w.heap.size w w' := by
  have HX0 := Zh (Pb.start (B := w.heap.size) (Own.nil 5 w.heap.size w none) (Nat.le_refl _) 26 #[.int .i64 k, .string t, .string co, .string u, .string c, .int .i64 ck, .int .i64 cv, .slice A len cap, .int .i64 tok, .int .i64 mo, .int .i64 ti]); have HCK := Zh (fun W (hb : Below w.heap.size w W) => qcheck_raw (h.on hb) k t co u c ck cv tok mo ti hz (hE.on hb)); have HFQ := Zh (fun h0 => fnq_of (q := ⟨k, t, co, u, c, ck, cv, xs, tok, mo, ti⟩) h0 hw); have HOK := Zh (fun h0 => check_ok (q := ⟨k, t, co, u, c, ck, cv, xs, tok, mo, ti⟩) h0); obtain ⟨r, hr⟩ : ∃ r, checkQ ⟨k, t, co, u, c, ck, cv, xs, tok, mo, ti⟩ = r := ⟨_, rfl⟩; rw [hr] at HCK HFQ HOK ⊢
  by_cases h0 : r = 0
  · subst h0
    have hF := HFQ.out rfl; have hk : kindB k = true := (HOK.out rfl).1; have HBT := Zh (bt_parts hk); have HP := Zh (fun W => qparts_any k W); have HOP := Zh (fun W v l (ho : Own 5 w.heap.size W v l) (hB : w.heap.size ≤ W.heap.size) (hl : l.length ≤ 100000) (hb : Below w.heap.size w W) => putOps_on ho hB hl (h.on hb) hF.ops (by rw [← h.hlen]; exact hF.n)); have z1 : t.size ≤ 20000 := hF.t; have z2 : co.size ≤ 20000 := hF.co; have z3 : u.size ≤ 20000 := hF.u; have z4 : c.size ≤ 20000 := hF.c; have y0 : ∀ (x : Bool) (s : ByteArray), s.size ≤ 20000 → (ot x s).length ≤ 20010 := fun x s hs => by
      have := enct_len s (by omega)
      cases x <;> simp [ot] <;> omega
    have y1 := y0 (hT k) t z1; have y2 := y0 (hC k) co z2; have y3 := y0 (hU k) u z3; have y4 := y0 (hK k) c z4; have y5 : (oc (hN k) ck cv).length ≤ 20 := by
      have a1 := encz_len ck hF.ck; have a2 := encz_len cv hF.cv
      cases hN k <;> simp [oc, encC] <;> omega
    have y6 : (oo (hO k) xs).length ≤ 83300 := by
      have a1 := opsB_len xs hF.ops; have a3 : xs.length ≤ 16 := hF.n; have a2 := encz_len (xs.length : Int) (by omega)
      cases hO k <;> simp [oo] <;> omega
    have y7 : (on (hW k) tok).length ≤ 10 := by
      have a1 := encz_len tok hF.tok
      cases hW k <;> simp [on] <;> omega
    have y8 : (on (hM k) mo).length ≤ 10 := by
      have a1 := encz_len mo hF.mo
      cases hM k <;> simp [on] <;> omega
    have HNM := Zh (And.intro hF.ck (And.intro hF.cv (And.intro hF.tok (And.intro hF.mo hF.ti)))); have HBY := Zh (show bytesQ ⟨k, t, co, u, c, ck, cv, xs, tok, mo, ti⟩ = ot (hT k) t ++ ot (hC k) co ++ ot (hU k) u ++ ot (hK k) c ++ oc (hN k) ck cv ++ oo (hO k) xs ++ on (hW k) tok ++ on (hM k) mo ++ on (hI k) ti from rfl); obtain ⟨BY, hBY⟩ : ∃ z, bytesQ ⟨k, t, co, u, c, ck, cv, xs, tok, mo, ti⟩ = z := ⟨_, rfl⟩; rw [hBY] at HBY ⊢; rw [hk] at HP; obtain ⟨H, hH⟩ : ∃ H, partsN k = H := ⟨_, rfl⟩; rw [hH] at HBT HP; have hlx : xs.length = len := h.hlen; have HOO := Zh (show oo true xs = encz (len : Int) ++ opsB xs by unfold oo; rw [if_pos rfl, hlx]); have bt1 := not_of HBT.out.t; have bt2 := not_of HBT.out.c; have bt3 := not_of HBT.out.u; have bt4 := not_of HBT.out.cd; have bt5 := HBT.out.n; have bt6 := HBT.out.o; have bt7 := not_of HBT.out.w; have bt8 := not_of HBT.out.m; have bt9 := not_of HBT.out.i
    generalize hT k = xT at *
    generalize hC k = xC at *
    generalize hU k = xU at *
    generalize hK k = xK at *
    generalize hN k = xN at *
    generalize hO k = xO at *
    generalize hW k = xW at *
    generalize hM k = xM at *
    generalize hI k = xI at *
    obtain ⟨l1, e1⟩ : ∃ z, ot xT t = z := ⟨_, rfl⟩; obtain ⟨l2, e2⟩ : ∃ z, ot xC co = z := ⟨_, rfl⟩; obtain ⟨l3, e3⟩ : ∃ z, ot xU u = z := ⟨_, rfl⟩; obtain ⟨l4, e4⟩ : ∃ z, ot xK c = z := ⟨_, rfl⟩; obtain ⟨l7, e7⟩ : ∃ z, on xW tok = z := ⟨_, rfl⟩; obtain ⟨l8, e8⟩ : ∃ z, on xM mo = z := ⟨_, rfl⟩; obtain ⟨l9, e9⟩ : ∃ z, on xI ti = z := ⟨_, rfl⟩; have P1 := Zh (fun W v l (ho : Own 5 w.heap.size W v l) (hB : w.heap.size ≤ W.heap.size) (hl : l.length ≤ 600000) => e1 ▸ putText_on ho hB hl t (by omega) (bits .and .i64 H 1) xT bt1); have P2 := Zh (fun W v l (ho : Own 5 w.heap.size W v l) (hB : w.heap.size ≤ W.heap.size) (hl : l.length ≤ 600000) => e2 ▸ putText_on ho hB hl co (by omega) (bits .and .i64 H 2) xC bt2); have P3 := Zh (fun W v l (ho : Own 5 w.heap.size W v l) (hB : w.heap.size ≤ W.heap.size) (hl : l.length ≤ 600000) => e3 ▸ putText_on ho hB hl u (by omega) (bits .and .i64 H 4) xU bt3); have P4 := Zh (fun W v l (ho : Own 5 w.heap.size W v l) (hB : w.heap.size ≤ W.heap.size) (hl : l.length ≤ 600000) => e4 ▸ putText_on ho hB hl c (by omega) (bits .and .i64 H 8) xK bt4); have P7 := Zh (fun W v l (ho : Own 5 w.heap.size W v l) (hB : w.heap.size ≤ W.heap.size) (hl : l.length ≤ 600000) => e7 ▸ putNum_on ho hB hl tok HNM.out.2.2.1 (bits .and .i64 H 64) xW bt7); have P8 := Zh (fun W v l (ho : Own 5 w.heap.size W v l) (hB : w.heap.size ≤ W.heap.size) (hl : l.length ≤ 600000) => e8 ▸ putNum_on ho hB hl mo HNM.out.2.2.2.1 (bits .and .i64 H 128) xM bt8); have P9 := Zh (fun W v l (ho : Own 5 w.heap.size W v l) (hB : w.heap.size ≤ W.heap.size) (hl : l.length ≤ 600000) => e9 ▸ putNum_on ho hB hl ti HNM.out.2.2.2.2 (bits .and .i64 H 256) xI bt9); rw [e1, e2, e3, e4, e7, e8, e9] at HBY; rw [e1] at y1; rw [e2] at y2; rw [e3] at y3; rw [e4] at y4; rw [e7] at y7; rw [e8] at y8; clear h hz hw hE hr HFQ HOK hF hk hBY hH hlx y0 bt1 bt2 bt3 bt4 bt7 bt8 bt9 HBT e1 e2 e3 e4 e7 e8 e9 z1 z2 z3 z4
    go_enter Tryz.func10, Tryz.ntmps10
    go_wp2_with fail
    refine (HCK.out _ HX0.out.bel).mono ?_; rintro _ w1 ⟨rfl, hb⟩; have HX1 := Zh (HX0.out.call (HX0.out.ow.below hb) hb); clear hb; obtain ⟨a1_0, a1_1, a1_2, a1_3, a1_4, a1_5, a1_6, a1_7, a1_8, a1_9, a1_10⟩ := cs11 HX1.out.bx; simp only [List.getElem?_toArray, List.getElem?_cons_zero, List.getElem?_cons_succ] at a1_0 a1_1 a1_2 a1_3 a1_4 a1_5 a1_6 a1_7 a1_8 a1_9 a1_10
    go_wp2_with fail
    refine (HP.out _).mono ?_; rintro _ x1 ⟨rfl, hw⟩; subst hw
    go_wp2_with fail
    refine (P1.out _ _ _ HX1.out.ow HX1.out.hB (by simp only [List.length_append, List.length_nil]; omega)).mono ?_; rintro _ w2 ⟨r2, rfl, h1, h2⟩; have HX2 := Zh (HX1.out.call h1 h2); clear h1 h2; obtain ⟨a2_0, a2_1, a2_2, a2_3, a2_4, a2_5, a2_6, a2_7, a2_8, a2_9, a2_10⟩ := cs11 HX2.out.bx; simp only [List.getElem?_toArray, List.getElem?_cons_zero, List.getElem?_cons_succ] at a2_0 a2_1 a2_2 a2_3 a2_4 a2_5 a2_6 a2_7 a2_8 a2_9 a2_10
    go_wp2_with fail
    refine (P2.out _ _ _ HX2.out.ow HX2.out.hB (by simp only [List.length_append, List.length_nil]; omega)).mono ?_; rintro _ w3 ⟨r3, rfl, h1, h2⟩; have HX3 := Zh (HX2.out.call h1 h2); clear h1 h2; obtain ⟨a3_0, a3_1, a3_2, a3_3, a3_4, a3_5, a3_6, a3_7, a3_8, a3_9, a3_10⟩ := cs11 HX3.out.bx; simp only [List.getElem?_toArray, List.getElem?_cons_zero, List.getElem?_cons_succ] at a3_0 a3_1 a3_2 a3_3 a3_4 a3_5 a3_6 a3_7 a3_8 a3_9 a3_10
    go_wp2_with fail
    refine (P3.out _ _ _ HX3.out.ow HX3.out.hB (by simp only [List.length_append, List.length_nil]; omega)).mono ?_; rintro _ w4 ⟨r4, rfl, h1, h2⟩; have HX4 := Zh (HX3.out.call h1 h2); clear h1 h2; obtain ⟨a4_0, a4_1, a4_2, a4_3, a4_4, a4_5, a4_6, a4_7, a4_8, a4_9, a4_10⟩ := cs11 HX4.out.bx; simp only [List.getElem?_toArray, List.getElem?_cons_zero, List.getElem?_cons_succ] at a4_0 a4_1 a4_2 a4_3 a4_4 a4_5 a4_6 a4_7 a4_8 a4_9 a4_10
    go_wp2_with fail
    refine (P4.out _ _ _ HX4.out.ow HX4.out.hB (by simp only [List.length_append, List.length_nil]; omega)).mono ?_; rintro _ w5 ⟨r5, rfl, h1, h2⟩; have HX5 := Zh (HX4.out.call h1 h2); clear h1 h2; obtain ⟨a5_0, a5_1, a5_2, a5_3, a5_4, a5_5, a5_6, a5_7, a5_8, a5_9, a5_10⟩ := cs11 HX5.out.bx; simp only [List.getElem?_toArray, List.getElem?_cons_zero, List.getElem?_cons_succ] at a5_0 a5_1 a5_2 a5_3 a5_4 a5_5 a5_6 a5_7 a5_8 a5_9 a5_10
    cases xN with
    | true =>
      have y55 : (encC ck cv).length ≤ 20 := y5
      go_wp2_with fail
      refine (putCond_on HX5.out.ow HX5.out.hB (by simp only [List.length_append, List.length_nil]; omega) ck cv HNM.out.1 HNM.out.2.1).mono ?_; rintro _ w6 ⟨r6, rfl, h1, h2⟩; have HX6 := Zh (HX5.out.call h1 h2); clear h1 h2; obtain ⟨a6_0, a6_1, a6_2, a6_3, a6_4, a6_5, a6_6, a6_7, a6_8, a6_9, a6_10⟩ := cs11 HX6.out.bx; simp only [List.getElem?_toArray, List.getElem?_cons_zero, List.getElem?_cons_succ] at a6_0 a6_1 a6_2 a6_3 a6_4 a6_5 a6_6 a6_7 a6_8 a6_9 a6_10
      cases xO with
      | true =>
        have y66 : (encz (len : Int) ++ opsB xs).length ≤ 83300 := by have := y6; rw [HOO.out] at this; exact this
        rw [List.length_append] at y66
        go_wp2_with fail
        refine (HOP.out _ _ _ HX6.out.ow HX6.out.hB (by simp only [List.length_append, List.length_nil]; omega) HX6.out.bel).mono ?_; rintro _ w7 ⟨r7, rfl, h1, h2⟩; have HX7 := Zh (HX6.out.call h1 h2); clear h1 h2; obtain ⟨a7_0, a7_1, a7_2, a7_3, a7_4, a7_5, a7_6, a7_7, a7_8, a7_9, a7_10⟩ := cs11 HX7.out.bx; simp only [List.getElem?_toArray, List.getElem?_cons_zero, List.getElem?_cons_succ] at a7_0 a7_1 a7_2 a7_3 a7_4 a7_5 a7_6 a7_7 a7_8 a7_9 a7_10
        go_wp2_with fail
        refine (P7.out _ _ _ HX7.out.ow HX7.out.hB (by simp only [List.length_append, List.length_nil]; omega)).mono ?_; rintro _ w10 ⟨r10, rfl, h1, h2⟩; have HX10 := Zh (HX7.out.call h1 h2); clear h1 h2; obtain ⟨a10_0, a10_1, a10_2, a10_3, a10_4, a10_5, a10_6, a10_7, a10_8, a10_9, a10_10⟩ := cs11 HX10.out.bx; simp only [List.getElem?_toArray, List.getElem?_cons_zero, List.getElem?_cons_succ] at a10_0 a10_1 a10_2 a10_3 a10_4 a10_5 a10_6 a10_7 a10_8 a10_9 a10_10
        go_wp2_with fail
        refine (P8.out _ _ _ HX10.out.ow HX10.out.hB (by simp only [List.length_append, List.length_nil]; omega)).mono ?_; rintro _ w11 ⟨r11, rfl, h1, h2⟩; have HX11 := Zh (HX10.out.call h1 h2); clear h1 h2; obtain ⟨a11_0, a11_1, a11_2, a11_3, a11_4, a11_5, a11_6, a11_7, a11_8, a11_9, a11_10⟩ := cs11 HX11.out.bx; simp only [List.getElem?_toArray, List.getElem?_cons_zero, List.getElem?_cons_succ] at a11_0 a11_1 a11_2 a11_3 a11_4 a11_5 a11_6 a11_7 a11_8 a11_9 a11_10
        go_wp2_with fail
        refine (P9.out _ _ _ HX11.out.ow HX11.out.hB (by simp only [List.length_append, List.length_nil]; omega)).mono ?_; rintro _ w12 ⟨r12, rfl, h1, h2⟩; have HX12 := Zh (HX11.out.call h1 h2); clear h1 h2; obtain ⟨a12_0, a12_1, a12_2, a12_3, a12_4, a12_5, a12_6, a12_7, a12_8, a12_9, a12_10⟩ := cs11 HX12.out.bx; simp only [List.getElem?_toArray, List.getElem?_cons_zero, List.getElem?_cons_succ] at a12_0 a12_1 a12_2 a12_3 a12_4 a12_5 a12_6 a12_7 a12_8 a12_9 a12_10
        go_wp2
        go_ret2
        exact ⟨r12, rfl, fun h => absurd rfl h, fun _ => by have := HX12.out.ow; rw [HBY.out, show oc true ck cv = encC ck cv from rfl, HOO.out]; simpa using this, HX12.out.bel⟩
      | false =>
        go_wp2_with fail
        refine (P7.out _ _ _ HX6.out.ow HX6.out.hB (by simp only [List.length_append, List.length_nil]; omega)).mono ?_; rintro _ w10 ⟨r10, rfl, h1, h2⟩; have HX10 := Zh (HX6.out.call h1 h2); clear h1 h2; obtain ⟨a10_0, a10_1, a10_2, a10_3, a10_4, a10_5, a10_6, a10_7, a10_8, a10_9, a10_10⟩ := cs11 HX10.out.bx; simp only [List.getElem?_toArray, List.getElem?_cons_zero, List.getElem?_cons_succ] at a10_0 a10_1 a10_2 a10_3 a10_4 a10_5 a10_6 a10_7 a10_8 a10_9 a10_10
        go_wp2_with fail
        refine (P8.out _ _ _ HX10.out.ow HX10.out.hB (by simp only [List.length_append, List.length_nil]; omega)).mono ?_; rintro _ w11 ⟨r11, rfl, h1, h2⟩; have HX11 := Zh (HX10.out.call h1 h2); clear h1 h2; obtain ⟨a11_0, a11_1, a11_2, a11_3, a11_4, a11_5, a11_6, a11_7, a11_8, a11_9, a11_10⟩ := cs11 HX11.out.bx; simp only [List.getElem?_toArray, List.getElem?_cons_zero, List.getElem?_cons_succ] at a11_0 a11_1 a11_2 a11_3 a11_4 a11_5 a11_6 a11_7 a11_8 a11_9 a11_10
        go_wp2_with fail
        refine (P9.out _ _ _ HX11.out.ow HX11.out.hB (by simp only [List.length_append, List.length_nil]; omega)).mono ?_; rintro _ w12 ⟨r12, rfl, h1, h2⟩; have HX12 := Zh (HX11.out.call h1 h2); clear h1 h2; obtain ⟨a12_0, a12_1, a12_2, a12_3, a12_4, a12_5, a12_6, a12_7, a12_8, a12_9, a12_10⟩ := cs11 HX12.out.bx; simp only [List.getElem?_toArray, List.getElem?_cons_zero, List.getElem?_cons_succ] at a12_0 a12_1 a12_2 a12_3 a12_4 a12_5 a12_6 a12_7 a12_8 a12_9 a12_10
        go_wp2
        go_ret2
        exact ⟨r12, rfl, fun h => absurd rfl h, fun _ => by have := HX12.out.ow; rw [HBY.out, show oc true ck cv = encC ck cv from rfl, show oo false xs = [] from rfl]; simpa using this, HX12.out.bel⟩
    | false =>
      cases xO with
      | true =>
        have y66 : (encz (len : Int) ++ opsB xs).length ≤ 83300 := by have := y6; rw [HOO.out] at this; exact this
        rw [List.length_append] at y66
        go_wp2_with fail
        refine (HOP.out _ _ _ HX5.out.ow HX5.out.hB (by simp only [List.length_append, List.length_nil]; omega) HX5.out.bel).mono ?_; rintro _ w7 ⟨r7, rfl, h1, h2⟩; have HX7 := Zh (HX5.out.call h1 h2); clear h1 h2; obtain ⟨a7_0, a7_1, a7_2, a7_3, a7_4, a7_5, a7_6, a7_7, a7_8, a7_9, a7_10⟩ := cs11 HX7.out.bx; simp only [List.getElem?_toArray, List.getElem?_cons_zero, List.getElem?_cons_succ] at a7_0 a7_1 a7_2 a7_3 a7_4 a7_5 a7_6 a7_7 a7_8 a7_9 a7_10
        go_wp2_with fail
        refine (P7.out _ _ _ HX7.out.ow HX7.out.hB (by simp only [List.length_append, List.length_nil]; omega)).mono ?_; rintro _ w10 ⟨r10, rfl, h1, h2⟩; have HX10 := Zh (HX7.out.call h1 h2); clear h1 h2; obtain ⟨a10_0, a10_1, a10_2, a10_3, a10_4, a10_5, a10_6, a10_7, a10_8, a10_9, a10_10⟩ := cs11 HX10.out.bx; simp only [List.getElem?_toArray, List.getElem?_cons_zero, List.getElem?_cons_succ] at a10_0 a10_1 a10_2 a10_3 a10_4 a10_5 a10_6 a10_7 a10_8 a10_9 a10_10
        go_wp2_with fail
        refine (P8.out _ _ _ HX10.out.ow HX10.out.hB (by simp only [List.length_append, List.length_nil]; omega)).mono ?_; rintro _ w11 ⟨r11, rfl, h1, h2⟩; have HX11 := Zh (HX10.out.call h1 h2); clear h1 h2; obtain ⟨a11_0, a11_1, a11_2, a11_3, a11_4, a11_5, a11_6, a11_7, a11_8, a11_9, a11_10⟩ := cs11 HX11.out.bx; simp only [List.getElem?_toArray, List.getElem?_cons_zero, List.getElem?_cons_succ] at a11_0 a11_1 a11_2 a11_3 a11_4 a11_5 a11_6 a11_7 a11_8 a11_9 a11_10
        go_wp2_with fail
        refine (P9.out _ _ _ HX11.out.ow HX11.out.hB (by simp only [List.length_append, List.length_nil]; omega)).mono ?_; rintro _ w12 ⟨r12, rfl, h1, h2⟩; have HX12 := Zh (HX11.out.call h1 h2); clear h1 h2; obtain ⟨a12_0, a12_1, a12_2, a12_3, a12_4, a12_5, a12_6, a12_7, a12_8, a12_9, a12_10⟩ := cs11 HX12.out.bx; simp only [List.getElem?_toArray, List.getElem?_cons_zero, List.getElem?_cons_succ] at a12_0 a12_1 a12_2 a12_3 a12_4 a12_5 a12_6 a12_7 a12_8 a12_9 a12_10
        go_wp2
        go_ret2
        exact ⟨r12, rfl, fun h => absurd rfl h, fun _ => by have := HX12.out.ow; rw [HBY.out, show oc false ck cv = [] from rfl, HOO.out]; simpa using this, HX12.out.bel⟩
      | false =>
        go_wp2_with fail
        refine (P7.out _ _ _ HX5.out.ow HX5.out.hB (by simp only [List.length_append, List.length_nil]; omega)).mono ?_; rintro _ w10 ⟨r10, rfl, h1, h2⟩; have HX10 := Zh (HX5.out.call h1 h2); clear h1 h2; obtain ⟨a10_0, a10_1, a10_2, a10_3, a10_4, a10_5, a10_6, a10_7, a10_8, a10_9, a10_10⟩ := cs11 HX10.out.bx; simp only [List.getElem?_toArray, List.getElem?_cons_zero, List.getElem?_cons_succ] at a10_0 a10_1 a10_2 a10_3 a10_4 a10_5 a10_6 a10_7 a10_8 a10_9 a10_10
        go_wp2_with fail
        refine (P8.out _ _ _ HX10.out.ow HX10.out.hB (by simp only [List.length_append, List.length_nil]; omega)).mono ?_; rintro _ w11 ⟨r11, rfl, h1, h2⟩; have HX11 := Zh (HX10.out.call h1 h2); clear h1 h2; obtain ⟨a11_0, a11_1, a11_2, a11_3, a11_4, a11_5, a11_6, a11_7, a11_8, a11_9, a11_10⟩ := cs11 HX11.out.bx; simp only [List.getElem?_toArray, List.getElem?_cons_zero, List.getElem?_cons_succ] at a11_0 a11_1 a11_2 a11_3 a11_4 a11_5 a11_6 a11_7 a11_8 a11_9 a11_10
        go_wp2_with fail
        refine (P9.out _ _ _ HX11.out.ow HX11.out.hB (by simp only [List.length_append, List.length_nil]; omega)).mono ?_; rintro _ w12 ⟨r12, rfl, h1, h2⟩; have HX12 := Zh (HX11.out.call h1 h2); clear h1 h2; obtain ⟨a12_0, a12_1, a12_2, a12_3, a12_4, a12_5, a12_6, a12_7, a12_8, a12_9, a12_10⟩ := cs11 HX12.out.bx; simp only [List.getElem?_toArray, List.getElem?_cons_zero, List.getElem?_cons_succ] at a12_0 a12_1 a12_2 a12_3 a12_4 a12_5 a12_6 a12_7 a12_8 a12_9 a12_10
        go_wp2
        go_ret2
        exact ⟨r12, rfl, fun h => absurd rfl h, fun _ => by have := HX12.out.ow; rw [HBY.out, show oc false ck cv = [] from rfl, show oo false xs = [] from rfl]; simpa using this, HX12.out.bel⟩
  · have d0 : (r != 0) = true := by simpa using h0
    have HN := Zh h0; clear h0 HFQ HOK h hz hw hE hr
    go_enter Tryz.func10, Tryz.ntmps10
    go_wp2_with fail
    refine (HCK.out _ HX0.out.bel).mono ?_; rintro _ w1 ⟨rfl, hb⟩; have HX1 := Zh (HX0.out.call (HX0.out.ow.below hb) hb); clear hb
    go_wp2
    go_ret2
    exact ⟨_, rfl, fun _ => rfl, fun h => absurd h HN.out, HX1.out.bel⟩
theorem qencode_any {q : Rq} (h : Ops w A len cap b off q.ops) (hz : SzQ q) (hw : WfQ q) (hE : Env w) : Calls Tryz.prog 10 #[rqV q A len cap] w fun e w' => ∃ v, e = .returned (.tuple #[v, .int .i64 (checkQ q)]) ∧ (checkQ q ≠ 0 → v = .slice none 0 0) ∧ (checkQ q = 0 → Own 5 w.heap.size w' v (bytesQ q)) ∧ Below w.heap.size w w' := by
  obtain ⟨k, t, co, u, c, ck, cv, ops, tok, mo, ti⟩ := q
  exact qencode_raw h k t co u c ck cv tok mo ti hz hw hE
end
end Go.Proofs.YtphijnkiiokieaaGreatDoor
