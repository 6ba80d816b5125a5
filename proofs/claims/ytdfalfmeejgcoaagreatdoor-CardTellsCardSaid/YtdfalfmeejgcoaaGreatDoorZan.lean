/- How many signs a text has, by its bytes from the front. -/
import Derived.Test.YtdfalfmeejgcoaaGreatDoorZam
import Derived.Test.YtdfalfmeejgcoaaGreatDoorZaa
import Derived.Laws.BitsAllLaws
import Derived.Maps.AppendAt
import Derived.Lib.IndexBytes
import Derived.Test.YtdfalfmeejgcoaaGreatDoorZah
import Derived.Test.YtdfalfmeejgcoaaGreatDoorZad
import Derived.Lib.TrimUEq
import Derived.Lib.RuneCount
/- card's laws: fields that came in; light; the document's example. -/
namespace Go.Proofs.YtdfalfmeejgcoaaGreatDoor
open Go.RowKit
open Go.Lib hiding intOf
open Go.Sort Go.Proofs
set_option linter.unusedVariables false
set_option linter.unusedSimpArgs false
set_option maxRecDepth 100000
abbrev shF : Sh := Sh.agg 3 [(0, 1, Sh.int .i64), (1, 1, Sh.int .i64), (2, 1, Sh.str)]
theorem f_open {w : World} {cs : List Value} (h : Sh.ok w shF cs) : ∃ f : F3, cs = encF f := by
  simp only [Sh.ok, Sh.okAll] at h
  obtain ⟨hl, ⟨u, e0, hu⟩, ⟨v, e1, hv⟩, ⟨x, e2, hx⟩, _⟩ := h
  match cs, hl with
  | [c0, c1, c2], _ =>
    simp at e0 e1 e2
    subst e0 e1 e2
    exact ⟨(u, v, x), rfl⟩
theorem fields_open {w : World} {A : Option Addr} {len cap : Nat} (S : Sh.ok w (Sh.slice 3 shF) [.slice A len cap]) : ∃ b off L, L.length = len ∧ Fv w A cap b off L := by
  obtain ⟨b, off, hle, hmax, ha, hc⟩ := slice_at S (by omega)
  have H : ∀ i, i < len → ∃ f : F3, ∀ j, j < 3 → w.cell? ⟨b, off + i * 3 + j, none⟩ = (encF f)[j]? := by
    intro i hi
    obtain ⟨cs, hl, hok, hcell⟩ := hc i hi
    obtain ⟨f, rfl⟩ := f_open hok
    exact ⟨f, hcell⟩
  refine ⟨b, off, List.ofFn (fun i : Fin len => Classical.choose (H i.1 i.2)), by simp, by simpa using hle, fun j f hj => ?_⟩
  have hjl : j < len := by have := (List.getElem?_eq_some_iff.1 hj).1; simpa using this
  rw [List.getElem?_eq_getElem (by simpa using hjl)] at hj
  simp only [List.getElem_ofFn, Option.some.injEq] at hj
  have h2 := Classical.choose_spec (H j hjl)
  rw [hj] at h2
  obtain ⟨a1, a2⟩ := ha (by omega)
  exact ⟨a1, a2, h2 0 (by omega), h2 1 (by omega), h2 2 (by omega)⟩
def litF (f : F3) : Bool := decide (f.2.2.size ≤ 200)
def lightF (L : List F3) : Bool := decide (L.length ≤ 30) && L.all litF
theorem light_spec {L : List F3} (h : lightF L = true) : L.length ≤ 30 ∧ ∀ f ∈ L, f.2.2.size ≤ 200 := by
  unfold lightF at h
  rw [Bool.and_eq_true, decide_eq_true_eq, List.all_eq_true] at h
  exact ⟨h.1, fun f hf => of_decide_eq_true (h.2 f hf)⟩
set_option maxHeartbeats 2000000 in
theorem light_any {w : World} {A : Option Addr} {cap b off : Nat} {L : List F3} (h : Fv w A cap b off L) (n : Nat) (hn : L.length = n) : Calls Tryz.prog 8 #[.slice A n cap] w fun e w' => e = .returned (.bool (lightF L)) ∧ Below w.heap.size w w' := by
  have H := Lib.hid h
  have HN := Lib.hid hn
  obtain ⟨r, hr⟩ : ∃ r, lightF L = r := ⟨_, rfl⟩
  have HR := Lib.hid hr
  rw [hr]
  clear h hr hn
  by_cases n1 : (n : Int) > 30
  · have H0 := Lib.hid (show false = r by rw [← HR.out]; unfold lightF; rw [decide_eq_false (show ¬ L.length ≤ 30 by have := HN.out; omega)]; rfl)
    go_enter Tryz.func8, Tryz.ntmps8
    go_wp2
    go_ret
    exact ⟨by rw [← H0.out]; rfl, Below.refl _ _⟩
  have HR2 := Lib.hid (show L.all litF = r by
    rw [← HR.out]; unfold lightF
    rw [decide_eq_true (show L.length ≤ 30 by have := HN.out; omega)]
    rfl)
  clear HR
  go_enter Tryz.func8, Tryz.ntmps8
  go_wp2
  go_loopw [3] (fun i wr => ∃ q : Nat, q ≤ n ∧ i = .int .i64 (q : Int) ∧ (L.take q).all litF = true ∧ Below w.heap.size w wr) (fun i _ => n - (intOf i).toNat)
  case atStart => exact ⟨0, Nat.zero_le _, rfl, rfl, Below.refl _ _⟩
  case round =>
    obtain ⟨q, hq, rfl, ht, hb⟩ := hrel
    have HT := Lib.hid ht
    have HB := Lib.hid hb
    clear ht hb
    by_cases hql : q < n
    · obtain ⟨f, hf⟩ : ∃ f, L[q]? = some f := ⟨L[q]'(by rw [HN.out]; exact hql), List.getElem?_eq_getElem _⟩
      obtain ⟨rfl, hbl, c0, c1, c2⟩ := (H.out.below HB.out).2 q f hf
      have HF := Lib.hid hf
      have hqI : (q : Int) < (n : Int) := by omega
      clear hf hbl
      by_cases hs : (f.2.2.size : Int) > 200
      · have H0 := Lib.hid (show false = r by
          rw [← HR2.out]
          symm
          rw [Bool.eq_false_iff]
          intro hall
          have := of_decide_eq_true (List.all_eq_true.1 hall f (List.mem_of_getElem? HF.out))
          omega)
        go_wp2
        go_ret
        exact ⟨by rw [← H0.out]; rfl, HB.out⟩
      · have HT2 := Lib.hid (show (L.take (q + 1)).all litF = true by
          rw [List.take_add_one, HF.out, List.all_append, HT.out]
          show (true && (litF f && true)) = true
          unfold litF
          rw [decide_eq_true (show f.2.2.size ≤ 200 by omega)]
          rfl)
        go_wp2
        go_roundw
        case rel => exact ⟨q + 1, by omega, by go_num, HT2.out, HB.out⟩
        case measure => simp [intOf]; omega
    · obtain rfl : q = n := by omega
      have H0 := Lib.hid (show true = r by rw [← HR2.out]; have := HT.out; rw [← HN.out, List.take_length] at this; exact this.symm)
      clear hql
      go_wp2
      go_ret
      exact ⟨by rw [← H0.out]; rfl, HB.out⟩
abbrev exT : ByteArray := ⟨#[110, 97, 109, 101, 58, 65, 110, 110, 10, 110, 111, 116, 101, 58, 120, 10]⟩
abbrev exL : List F3 := [(6, 0, ⟨#[120]⟩), (1, 0, ⟨#[65, 110, 110]⟩)]
theorem ex_txt : txtL exL = (exT, 0) := by decide +kernel
theorem ex_is : isC exT = true := by decide +kernel
theorem ex_tit : titF (parL exT).1 = ⟨#[65, 110, 110]⟩ := by decide +kernel
theorem text_on {v : World} {A : Option Addr} {cap b off : Nat} {L : List F3} (n : Nat) (hn : L.length = n) (tv : ByteArray) (te : Int) (ht : txtL L = (tv, te)) (h : Fv v A cap b off L) (h1 : L.length ≤ 1000) (hv : ∀ f ∈ L, f.2.2.size ≤ 1000000) (hE : Env v) :
    Calls Tryz.prog 11 #[.slice A n cap] v fun e w' => e = .returned (.tuple #[.string tv, .int .i64 te]) ∧ Below v.heap.size v w' := by
  have := text_any h h1 hv hE
  rw [ht, hn] at this
  exact this
theorem is_on (s : ByteArray) (hs : s.size ≤ 1000000) (r : Bool) (hr : isC s = r) (w : World) (hE : Env w) : Calls Tryz.prog 16 #[.string s] w fun e w' => e = .returned (.bool r) ∧ Below w.heap.size w w' := by
  have := cis_any s hs w hE
  rw [hr] at this
  exact this
theorem title_on (s : ByteArray) (hs : s.size ≤ 1000000) (r : ByteArray) (hr : titF (parL s).1 = r) (w : World) (hE : Env w) : Calls Tryz.prog 18 #[.string s] w fun e w' => e = .returned (.string r) ∧ Below w.heap.size w w' := by
  have := title_any s hs w hE
  rw [hr] at this
  exact this
set_option maxHeartbeats 4000000 in
theorem first_any (w : World) (hE : Env w) : Calls Tryz.prog 7 #[] w fun e w' => e = .returned (.bool true) ∧ Below w.heap.size w w' := by
  have HE := Lib.hid hE
  obtain ⟨W1, hW1⟩ : ∃ W1, w.alloc (.cells #[.int .i64 6, .int .i64 0, .string ⟨#[120]⟩, .int .i64 1, .int .i64 0, .string ⟨#[65, 110, 110]⟩] 36) = W1 := ⟨_, rfl⟩
  have HY := Lib.hid (show Blk W1 w.heap.size 36 #[.int .i64 6, .int .i64 0, .string ⟨#[120]⟩, .int .i64 1, .int .i64 0, .string ⟨#[65, 110, 110]⟩] from hW1 ▸ Blk.new w 36 _)
  have HB1 := Lib.hid (show Below w.heap.size w W1 from hW1 ▸ (Below.refl _ w).alloc (Nat.le_refl _) _)
  have HF := Lib.hid (show Fv W1 (some ⟨w.heap.size, 0, none⟩) 2 w.heap.size 0 exL from ⟨by decide, fun j f hj => by
    have hl := HY.out.lt
    match j, hj with
    | 0, hj => cases hj; exact ⟨rfl, hl, HY.out.cell 0, HY.out.cell 1, HY.out.cell 2⟩
    | 1, hj => cases hj; exact ⟨rfl, hl, HY.out.cell 3, HY.out.cell 4, HY.out.cell 5⟩
    | j + 2, hj => simp at hj⟩)
  have HT := Lib.hid (text_on 2 rfl _ _ ex_txt HF.out (by decide) (by decide) (HE.out.on HB1.out))
  have HI := Lib.hid (fun v (h : Env v) => is_on exT (by decide) _ ex_is v h)
  have HTI := Lib.hid (fun v (h : Env v) => title_on exT (by decide) _ ex_tit v h)
  clear hE
  go_enter Tryz.func7, Tryz.ntmps7
  go_wp2_with fail
  refine HT.out.mono ?_
  rintro _ w2 ⟨rfl, hb⟩
  have HB2 := Lib.hid (HB1.out.trans (hb.mono HB1.out.size))
  clear hb hW1
  go_wp2_with (first
    | (go_at_call 16; (with_reducible refine (HI.out _ (HE.out.on HB2.out)).mono ?_); rintro _ w3 ⟨rfl, hb⟩; have HB3 := Lib.hid (HB2.out.trans (hb.mono HB2.out.size)); clear hb)
    | (go_at_call 18; (with_reducible refine (HTI.out _ (HE.out.on HB3.out)).mono ?_); rintro _ w4 ⟨rfl, hb⟩; have HB4 := Lib.hid (HB3.out.trans (hb.mono HB3.out.size)); clear hb)
    | fail)
  go_ret
  exact ⟨rfl, HB4.out⟩
end Go.Proofs.YtdfalfmeejgcoaaGreatDoor
/- CardOrder: in whatever order, and however often, it is the same card. -/
namespace Go.Proofs.YtdfalfmeejgcoaaGreatDoor
open Go.RowKit
open Go.Lib hiding intOf
open Go.Sort Go.Proofs
set_option linter.unusedVariables false
set_option linter.unusedSimpArgs false
set_option maxRecDepth 100000
theorem bofInt_u64 (n : Nat) (h : n < 2 ^ 63) : (BitVec.ofInt 64 (n : Int)).toNat = n := by
  rw [BitVec.toNat_ofInt]
  omega
theorem i64_and (a b : Int) (h3 : 0 ≤ b) (h4 : b < 9223372036854775808) : bits .and .i64 a b = (((BitVec.ofInt 64 a).toNat &&& b.toNat : Nat) : Int) := by
  obtain ⟨B, rfl⟩ := Int.eq_ofNat_of_zero_le h3
  have hx : (BitVec.ofInt 64 a).toNat &&& B < 2 ^ 63 := Nat.and_lt_two_pow _ (by omega)
  show IntKind.i64.wrap ((BitVec.ofInt 64 a &&& BitVec.ofInt 64 (B : Int)).toNat : Int) = _
  rw [BitVec.toNat_and, bofInt_u64 B (by omega), IntWalk.i64_in _ (by omega)]
  rfl
theorem errL_zero : ∀ L : List F3, errL L = 0 ↔ ∀ f ∈ L, (cn1 f).2 = 0
  | [] => by simp [errL]
  | f :: L => by
    unfold errL
    by_cases h : (cn1 f).2 = 0
    · rw [if_pos h, errL_zero L]
      simp [h]
    · rw [if_neg h]
      simp [h]
theorem canL_same {L M : List F3} (h : ∀ x, x ∈ L ↔ x ∈ M) : (errL L = 0 ∧ errL M = 0 ∧ canL L = canL M) ∨ (errL L ≠ 0 ∧ errL M ≠ 0) := by
  by_cases h0 : errL L = 0
  · have h1 : errL M = 0 := (errL_zero M).2 fun f hf => (errL_zero L).1 h0 f ((h f).2 hf)
    refine .inl ⟨h0, h1, ?_⟩
    rw [canL_ok h0, canL_ok h1]
    congr 1
    refine rise_of (rise_str _) fun x => ?_
    rw [rise_mem]
    unfold cnA
    simp only [List.mem_map]
    exact ⟨fun ⟨f, hf, e⟩ => ⟨f, (h f).2 hf, e⟩, fun ⟨f, hf, e⟩ => ⟨f, (h f).1 hf, e⟩⟩
  · exact .inr ⟨h0, fun h1 => h0 ((errL_zero L).2 fun f hf => (errL_zero M).1 h1 f ((h f).1 hf))⟩
theorem txtL_same {L M : List F3} (h : ∀ x, x ∈ L ↔ x ∈ M) : (txtL L).1 = (txtL M).1 ∧ ((txtL L).2 == 0) = ((txtL M).2 == 0) := by
  rcases canL_same h with ⟨_, _, e⟩ | ⟨h1, h2⟩
  · unfold txtL; rw [e]; exact ⟨rfl, rfl⟩
  · have e1 := canL_err rfl h1
    have e2 := canL_err rfl h2
    unfold txtL
    rw [e1, e2]
    simp [h1, h2, beq_eq_false_iff_ne.2 h1, beq_eq_false_iff_ne.2 h2]
/-- A slice of fields appended onto a row of fields. -/
theorem fr3_app {P : Program} {ops : Array Oper} {rest : List Oper} {o : Oper} {a : Act} {Q : Exit → Act → World → Prop} (w : World) (hgd : o.guard = none) (s x : Operand) (t : TypeId)
    (ho : o.op = .call { callee := .builtin .append, args := #[s, x], argTypes := #[t, t] }) (ht : P.underlying t = some (.slice 36)) (hinf : (P.info? 36).map (fun i => (i.zero, i.size, i.bytes)) = some (some (.agg #[.int .i64 0, .int .i64 0, .string ⟨#[]⟩]), 3, 32))
    (B : Nat) (V : Value) (n : Nat) (L : List F3) (hs : a.eval s = V) (h : Fr3 w B V n L) (ad : Addr) (m c : Nat) (M : List F3) (hm : M.length = m) (hx : a.eval x = .slice (some ad) m c) (hM : ∀ j u, (encL M)[j]? = some u → w.cell? (ad.add j) = some u) (hn : n + m ≤ 1000000) (hB : B ≤ w.heap.size)
    (hK : ∀ V' w', Fr3 w' B V' (n + m) (L ++ M) → w.grownBy w' V.ownBlock → wpList P ops Q rest (a.put o.dst V') w') : wpList P ops Q (o :: rest) a w := by
  obtain ⟨i, hi, hz, hsz, hby⟩ := info_of hinf
  have hl : ∀ M : List F3, (encL M).length = M.length * 3 := fun M => by
    induction M with
    | nil => rfl
    | cons f M ih =>
      have e : encL (f :: M) = encF f ++ encL M := by unfold encL; simp
      rw [e, List.length_append, ih, List.length_cons]
      show 3 + _ = _
      omega
  refine wpList_append_own_at (w := w) hgd s x t ho B 36 i _ 3 32 ht hi hz hsz hby rfl (by decide) V n (encL L) hs h ad m c (encL M) hx (by rw [hl, hm]) hM ?c2 ?c3 ?c4 hB ?_
  case c2 =>
    intro y hy
    unfold encL at hy
    rw [List.mem_flatten] at hy
    obtain ⟨l, h1, h2⟩ := hy
    rw [List.mem_map] at h1
    obtain ⟨f, _, rfl⟩ := h1
    unfold encF at h2
    simp at h2
    rcases h2 with rfl | rfl | rfl <;> rfl
  case c3 => unfold maxLen; omega
  case c4 => omega
  intro v' w' h1 h2 _ _
  refine hK v' w' ?_ h2
  unfold Fr3
  have e : encL (L ++ M) = encL L ++ encL M := by unfold encL; simp
  rw [e]
  exact h1
theorem encL_append (L M : List F3) : encL (L ++ M) = encL L ++ encL M := by unfold encL; simp
/-- The cells of a piece of a slice of fields. -/
theorem fv_cells {w : World} {A : Option Addr} {cap b off : Nat} {L : List F3} (h : Fv w A cap b off L) (k : Nat) (j : Nat) (u : Value) (hj : (encL (L.drop k))[j]? = some u) : w.cell? ((⟨b, off + k * 3, none⟩ : Addr).add j) = some u := by
  rw [encL_get, List.getElem?_drop] at hj
  cases hf : L[k + j / 3]? with
  | none => rw [hf] at hj; cases hj
  | some f =>
    rw [hf] at hj
    simp only at hj
    obtain ⟨_, _, c0, c1, c2⟩ := h.2 _ f hf
    have h3 : j % 3 < 3 := Nat.mod_lt _ (by decide)
    have e : (⟨b, off + k * 3, none⟩ : Addr).add j = ⟨b, off + (k + j / 3) * 3 + j % 3, none⟩ := by
      rw [add_plain]
      congr 1
      omega
    rw [e]
    match j % 3, h3, hj with
    | 0, _, hj => cases hj; exact c0
    | 1, _, hj => cases hj; exact c1
    | 2, _, hj => cases hj; exact c2
theorem cells_take {w : World} {ad : Addr} {L : List F3} (k : Nat) (h : ∀ j u, (encL L)[j]? = some u → w.cell? (ad.add j) = some u) : ∀ j u, (encL (L.take k))[j]? = some u → w.cell? (ad.add j) = some u := fun j u hj => by
  refine h j u ?_
  have e : encL L = encL (L.take k) ++ encL (L.drop k) := by rw [← encL_append, List.take_append_drop]
  rw [e, List.getElem?_append_left (List.getElem?_eq_some_iff.1 hj).1]
  exact hj
theorem order_mem {L : List F3} {k : Nat} (x : F3) : x ∈ L ↔ x ∈ L.drop k ++ L.take k := by
  have e : L = L.take k ++ L.drop k := (List.take_append_drop k L).symm
  constructor
  · intro h
    rw [e] at h
    rcases List.mem_append.1 h with h | h
    · exact List.mem_append_right _ h
    · exact List.mem_append_left _ h
  · intro h
    rw [e]
    rcases List.mem_append.1 h with h | h
    · exact List.mem_append_right _ h
    · exact List.mem_append_left _ h
set_option maxHeartbeats 8000000 in
theorem cardOrder_walk (w : World) (hTD : Tabs w ∧ Day.Tab w.heap.size w) (hM : Mx w) (A0 : Option Addr) (len0 cap0 : Nat) (S0 : Sh.ok w (Sh.slice 3 (Sh.agg 3 [(0, 1, (Sh.int .i64)), (1, 1, (Sh.int .i64)), (2, 1, Sh.str)])) [.slice A0 len0 cap0]) (a1 : Int) (w1 : (Lit.int .i64 a1).wf = true) :
    Calls Tryz.prog 5 #[.slice A0 len0 cap0, .int .i64 a1] w fun e w' => e = .returned (.bool true) ∧ Below w.heap.size w w' := by
  obtain ⟨b, off, L, hL, hF⟩ := fields_open S0
  have HE := Lib.hid (show Env w from ⟨hTD.1, hM, hTD.2⟩)
  have HF := Lib.hid hF
  have HL := Lib.hid hL
  have HF0 := Lib.hid (fun v (h : Env v) => first_any v h)
  have HLI := Lib.hid (fun v (h : Below w.heap.size w v) => light_any (hF.below h) len0 hL)
  clear hTD hM S0 w1 hF
  cases hli : lightF L with
  | false =>
    rw [hli] at HLI
    go_enter Tryz.func5, Tryz.ntmps5
    go_wp2_with fail
    refine (HF0.out _ HE.out).mono ?_
    rintro _ v1 ⟨rfl, hb⟩
    have HB1 := Lib.hid hb
    clear hb
    go_wp2_with (go_at_call 8; (with_reducible refine (HLI.out _ HB1.out).mono ?_); rintro _ v2 ⟨rfl, hb⟩; have HB2 := Lib.hid (HB1.out.trans (hb.mono HB1.out.size)); clear hb)
    refine (HF0.out _ (HE.out.on HB2.out)).mono ?_
    rintro _ v3 ⟨rfl, hb⟩
    have HB3 := Lib.hid (HB2.out.trans (hb.mono HB2.out.size))
    clear hb
    go_wp2
    go_ret
    exact ⟨rfl, HB3.out⟩
  | true =>
    obtain ⟨hl30, hl200⟩ := light_spec hli
    rw [hli] at HLI
    by_cases hz : len0 = 0
    · subst hz
      go_enter Tryz.func5, Tryz.ntmps5
      go_wp2_with fail
      refine (HF0.out _ HE.out).mono ?_
      rintro _ v1 ⟨rfl, hb⟩
      have HB1 := Lib.hid hb
      clear hb
      go_wp2_with (go_at_call 8; (with_reducible refine (HLI.out _ HB1.out).mono ?_); rintro _ v2 ⟨rfl, hb⟩; have HB2 := Lib.hid (HB1.out.trans (hb.mono HB1.out.size)); clear hb)
      refine (HF0.out _ (HE.out.on HB2.out)).mono ?_
      rintro _ v3 ⟨rfl, hb⟩
      have HB3 := Lib.hid (HB2.out.trans (hb.mono HB2.out.size))
      clear hb
      go_wp2
      go_ret
      exact ⟨rfl, HB3.out⟩
    · have hnz : ((len0 : Int) == 0) = false := by simp; omega
      have ha := i64_and a1 65535 (by decide) (by decide)
      obtain ⟨M, hMM⟩ : ∃ M : Nat, ((BitVec.ofInt 64 a1).toNat &&& (65535 : Int).toNat) = M := ⟨_, rfl⟩
      rw [hMM] at ha
      clear hMM
      have hmod : M % len0 < len0 := Nat.mod_lt _ (by omega)
      have htm : (M : Int).tmod (len0 : Int) = ((M % len0 : Nat) : Int) := by rw [Int.ofNat_tmod]
      obtain ⟨k, hk⟩ : ∃ k, M % len0 = k := ⟨_, rfl⟩
      rw [hk] at hmod htm
      have hlen : len0 ≤ 30 := by omega
      obtain ⟨rfl, _⟩ : A0 = some ⟨b, off, none⟩ ∧ True := by
        obtain ⟨f, hf⟩ : ∃ f, L[0]? = some f := ⟨L[0]'(by omega), List.getElem?_eq_getElem _⟩
        exact ⟨(HF.out.2 0 f hf).1, trivial⟩
      have hcap : len0 ≤ cap0 := by have := HF.out.1; omega
      have HV := Lib.hid hl200
      have HK := Lib.hid hmod
      have hkI : (k : Int) < (len0 : Int) := by omega
      have hcapI : (len0 : Int) ≤ (cap0 : Int) := by omega
      have hlenI : (len0 : Int) ≤ 30 := by omega
      have HLE := Lib.hid hlen
      have HNZ := Lib.hid hz
      clear hk hl30 hl200 hz
      go_enter Tryz.func5, Tryz.ntmps5
      go_wp2_with fail
      refine (HF0.out _ HE.out).mono ?_
      rintro _ v1 ⟨rfl, hb⟩
      have HB1 := Lib.hid hb
      clear hb
      obtain ⟨B, hB⟩ : ∃ B, w.heap.size = B := ⟨_, rfl⟩
      have HBB := Lib.hid hB
      have hdl : (L.drop k).length = len0 - k := by rw [List.length_drop, HL.out]
      have htl : (L.take k).length = k := by rw [List.length_take, HL.out]; omega
      have HDL := Lib.hid hdl
      have HTL := Lib.hid htl
      clear hdl htl hB
      go_wp2_with (first
        | (go_at_call 8; (with_reducible refine (HLI.out _ HB1.out).mono ?_); rintro _ v2 ⟨rfl, hb⟩; have HB2 := Lib.hid (HB1.out.trans (hb.mono HB1.out.size)); clear hb)
        | (at_builtin
           refine fr3_app _ rfl (.tmp 32) (.tmp 35) 22 rfl Tryz.underlying22 info36 B _ (len0 - k) (L.drop k) rfl HR3b.out ⟨b, off, none⟩ k _ (L.take k) HTL.out rfl (cells_take k (by have := fv_cells (HF.out.below HB3.out) 0; rw [Nat.zero_mul, Nat.add_zero, List.drop_zero] at this; exact this)) (by omega) (by have := HB3.out.size; have := HBB.out; omega) ?_
           intro V2 w4 hown hgr
           have HR4 := Lib.hid hown
           have HB4 := Lib.hid (show Below w.heap.size w w4 from HB3.out.grown hgr HB3.out.size (fun k e => by have := (HR3b.out.lt k e).1; have := HBB.out; omega))
           clear hown hgr HR3b)
        | (at_builtin
           refine fr3_app _ rfl (.tmp 27) (.tmp 30) 22 rfl Tryz.underlying22 info36 B _ 0 [] rfl ⟨rfl, .inl ⟨rfl, rfl⟩⟩ ⟨b, off + k * 3, none⟩ (len0 - k) _ (L.drop k) HDL.out rfl (fv_cells (HF.out.below HB2.out) k) (by omega) (by have := HB2.out.size; have := HBB.out; omega) ?_
           intro V1 w3 hown hgr
           have HR3b := Lib.hid (show Fr3 w3 B V1 (len0 - k) (L.drop k) from by have := hown; rw [Nat.zero_add, List.nil_append] at this; exact this)
           have HB3 := Lib.hid (show Below w.heap.size w w3 from HB2.out.grown hgr HB2.out.size (fun k e => by cases e))
           clear hown hgr)
        | fail)
      have hr4 : Fr3 w4 B V2 len0 (L.drop k ++ L.take k) := by have := HR4.out; rw [Nat.sub_add_cancel (by omega)] at this; exact this
      have hlm : (L.drop k ++ L.take k).length = len0 := by rw [List.length_append, HDL.out, HTL.out]; omega
      obtain ⟨A2, c2, g2, rfl, hf4⟩ := fr3_fv hr4 hlm
      have HR4b := Lib.hid hr4
      have HF4 := Lib.hid hf4
      have HLM := Lib.hid hlm
      clear hr4 HR4 hf4 hlm
      by_cases h28 : (len0 : Int) < 28
      · obtain ⟨f, hf⟩ : ∃ f, L[k]? = some f := ⟨L[k]'(by rw [HL.out]; exact HK.out), List.getElem?_eq_getElem _⟩
        have HKF := Lib.hid hf
        obtain ⟨_, hbl, c0, c1, c2'⟩ := (HF.out.below HB4.out).2 k f hf
        obtain ⟨f1, f2, f3⟩ := f
        simp only at c0 c1 c2'
        obtain ⟨W5, hW5⟩ : ∃ W5, w4.alloc (.cells #[.int .i64 f1, .int .i64 f2, .string f3] 36) = W5 := ⟨_, rfl⟩
        have HB5 := Lib.hid (show Blk W5 w4.heap.size 36 #[.int .i64 f1, .int .i64 f2, .string f3] from hW5 ▸ Blk.new w4 36 _)
        have HO5 := Lib.hid (show Fr3 W5 B (.slice A2 len0 c2) len0 (L.drop k ++ L.take k) from hW5 ▸ World.ownsRow.alloc HR4b.out _)
        have HW5 := Lib.hid (show Below w.heap.size w W5 from hW5 ▸ HB4.out.alloc HB4.out.size _)
        clear hf hbl
        go_wp2_with (first
          | (at_builtin
             (try rw [hW5])
             refine fr3_push _ rfl (.tmp 40) (.tmp 45) 22 rfl Tryz.underlying22 info36 B _ len0 (L.drop k ++ L.take k) rfl HO5.out w4.heap.size (f1, f2, f3) rfl HB5.out (by omega) (by have := HW5.out.size; have := HBB.out; omega) ?_
             intro V6 w6 hown hgr
             have HR6 := Lib.hid hown
             have HB6 := Lib.hid (show Below w.heap.size w w6 from HW5.out.grown hgr HW5.out.size (fun k e => by have := (HO5.out.lt k e).1; have := HBB.out; omega))
             clear hown hgr)
          | fail)
        have hlm6 : (L.drop k ++ L.take k ++ [(f1, f2, f3)]).length = len0 + 1 := by rw [List.length_append, HLM.out]; rfl
        obtain ⟨A6, c6, g6, rfl, hf6⟩ := fr3_fv HR6.out hlm6
        have HF6 := Lib.hid hf6
        have HLM6 := Lib.hid hlm6
        have HIN : ∀ x, x ∈ L.drop k ++ L.take k ++ [((f1, f2, f3) : F3)] → x ∈ L := fun x hx => by
          rcases List.mem_append.1 hx with h | h
          · exact (order_mem x).2 h
          · rw [List.mem_singleton.1 h]; exact List.mem_of_getElem? HKF.out
        have HINH := Lib.hid HIN
        clear hf6 hlm6 HIN c0 c1 c2' hW5
        have HMS := Lib.hid (txtL_same (L := L) (M := L.drop k ++ L.take k ++ [(f1, f2, f3)]) (fun x => ⟨fun h => List.mem_append_left _ ((order_mem x).1 h), fun h => HINH.out x h⟩))
        obtain ⟨s1, e1, h1⟩ : ∃ s e, txtL L = (s, e) := ⟨_, _, rfl⟩
        obtain ⟨s2, e2, h2⟩ : ∃ s e, txtL (L.drop k ++ L.take k ++ [(f1, f2, f3)]) = (s, e) := ⟨_, _, rfl⟩
        have HT1 := Lib.hid (text_on len0 HL.out s1 e1 h1 (HF.out.below HB6.out) (by have := HLE.out; have := HL.out; omega) (fun f hf => by have := HV.out f hf; omega) (HE.out.on HB6.out))
        have HT2 := Lib.hid (fun v (hb : Below w6.heap.size w6 v) => text_on _ HLM6.out s2 e2 h2 (HF6.out.below hb) (by have := HLM6.out; have := HLE.out; omega) (fun f hf => by have := HV.out f (HINH.out f hf); omega) (HE.out.on (HB6.out.trans (hb.mono HB6.out.size))))
        rw [h1, h2] at HMS
        have hse : s1 = s2 := HMS.out.1
        have hee : (e1 == 0) = (e2 == 0) := HMS.out.2
        subst hse
        have b1 : (s1.toList == s1.toList) = true := beq_self_eq_true _
        obtain ⟨b, hb1⟩ : ∃ b, (e1 == 0) = b := ⟨_, rfl⟩
        rw [hb1] at hee
        have hb2 : (e2 == 0) = b := hee.symm
        clear h1 h2 hee
        go_wp2_with fail
        refine HT1.out.mono ?_
        rintro _ w7 ⟨rfl, hb⟩
        have HB7 := Lib.hid hb
        clear hb
        go_wp2_with fail
        refine (HT2.out _ HB7.out).mono ?_
        rintro _ w8 ⟨rfl, hb⟩
        have HB8 := Lib.hid (HB7.out.trans (hb.mono HB7.out.size))
        clear hb
        cases b <;> (
          go_wp2
          go_ret
          exact ⟨rfl, HB6.out.trans (HB8.out.mono HB6.out.size)⟩)
      · have h28' : ¬ (len0 : Int) < 28 := h28
        have HMS := Lib.hid (txtL_same (L := L) (M := L.drop k ++ L.take k) order_mem)
        obtain ⟨s1, e1, h1⟩ : ∃ s e, txtL L = (s, e) := ⟨_, _, rfl⟩
        obtain ⟨s2, e2, h2⟩ : ∃ s e, txtL (L.drop k ++ L.take k) = (s, e) := ⟨_, _, rfl⟩
        have HT1 := Lib.hid (text_on len0 HL.out s1 e1 h1 (HF.out.below HB4.out) (by have := HLE.out; have := HL.out; omega) (fun f hf => by have := HV.out f hf; omega) (HE.out.on HB4.out))
        have HT2 := Lib.hid (fun v (hb : Below w4.heap.size w4 v) => text_on _ HLM.out s2 e2 h2 (HF4.out.below hb) (by have := HLM.out; have := HLE.out; omega) (fun f hf => by have := HV.out f ((order_mem f).2 hf); omega) (HE.out.on (HB4.out.trans (hb.mono HB4.out.size))))
        rw [h1, h2] at HMS
        have hse : s1 = s2 := HMS.out.1
        have hee : (e1 == 0) = (e2 == 0) := HMS.out.2
        subst hse
        have b1 : (s1.toList == s1.toList) = true := beq_self_eq_true _
        obtain ⟨b, hb1⟩ : ∃ b, (e1 == 0) = b := ⟨_, rfl⟩
        rw [hb1] at hee
        have hb2 : (e2 == 0) = b := hee.symm
        clear h1 h2 hee
        go_wp2_with fail
        refine HT1.out.mono ?_
        rintro _ w7 ⟨rfl, hb⟩
        have HB7 := Lib.hid hb
        clear hb
        go_wp2_with fail
        refine (HT2.out _ HB7.out).mono ?_
        rintro _ w8 ⟨rfl, hb⟩
        have HB8 := Lib.hid (HB7.out.trans (hb.mono HB7.out.size))
        clear hb
        cases b <;> (
          go_wp2
          go_ret
          exact ⟨rfl, HB4.out.trans (HB8.out.mono HB4.out.size)⟩)
end Go.Proofs.YtdfalfmeejgcoaaGreatDoor
/- card: canonical twice; the text of a card parsed. -/
namespace Go.Proofs.YtdfalfmeejgcoaaGreatDoor
open Go.RowKit
open Go.Lib hiding intOf
open Go.Sort Go.Proofs
set_option linter.unusedVariables false
set_option linter.unusedSimpArgs false
set_option maxRecDepth 100000
theorem cn1_ok {f : F3} (h : (cn1 f).2 = 0) : mayF (cn1 f).1.1 (cn1 f).1.2.1 (cn1 f).1.2.2 = true ∧ cn1 (cn1 f).1 = ((cn1 f).1, 0) ∧ (cn1 f).1.1 = f.1 ∧ (valueS (cn1 f).1.1 (cn1 f).1.2.2).2 = 0 := by
  obtain ⟨k, l, v⟩ := f
  unfold cn1 at h ⊢
  simp only at h ⊢
  by_cases h1 : (kindW k).toList.isEmpty = true ∨ labelledB k l = false
  · rw [if_pos h1] at h
    exact absurd h (by decide)
  · rw [if_neg h1] at h ⊢
    by_cases h2 : (valueS k v).2 = 0
    · rw [if_pos h2] at h ⊢
      have hv := value_self k v h2
      simp only
      refine ⟨?_, by rw [if_neg h1, hv, if_pos rfl], trivial, by rw [hv]⟩
      have h3 : (kindW k).toList.isEmpty = false := by
        cases hh : (kindW k).toList.isEmpty with
        | true => exact absurd (.inl hh) h1
        | false => rfl
      have h4 : labelledB k l = true := by
        cases hh : labelledB k l with
        | false => exact absurd (.inr hh) h1
        | true => rfl
      unfold mayF
      rw [h3, h4, hv]
      simp
    · rw [if_neg h2] at h
      exact absurd h h2
/-- What a canonical field is like. -/
def Cnn (f : F3) : Prop := mayF f.1 f.2.1 f.2.2 = true ∧ cn1 f = (f, 0) ∧ (valueS f.1 f.2.2).2 = 0
theorem cnn_of {f : F3} (h : (cn1 f).2 = 0) : Cnn (cn1 f).1 := ⟨(cn1_ok h).1, (cn1_ok h).2.1, (cn1_ok h).2.2.2⟩
theorem cnn_rise {L : List F3} (h : errL L = 0) : ∀ f ∈ rise (cnA L), Cnn f := fun f hf => by
  rw [rise_mem] at hf
  obtain ⟨x, hx, rfl⟩ := List.mem_map.1 hf
  exact cnn_of ((errL_zero L).1 h x hx)
theorem cnn_all {L : List F3} (h : ∀ f ∈ L, Cnn f) : errL L = 0 ∧ cnA L = L := by
  refine ⟨(errL_zero L).2 fun f hf => by rw [(h f hf).2.1], ?_⟩
  unfold cnA
  conv => rhs; rw [← List.map_id L]
  exact List.map_congr_left fun f hf => by rw [(h f hf).2.1]; rfl
/-- A card. -/
structure IsCard (a : List F3) : Prop where
  cnn : ∀ f ∈ a, Cnn f
  str : Str a
  can : canO a = (a, 0)
theorem card_of {L : List F3} (h : (canL L).2 = 0) : IsCard (canL L).1 := by
  rcases canL_spec L with ⟨_, h1, h2, _⟩ | ⟨h1, _⟩
  · have e := canL_ok h1
    refine ⟨by rw [h2]; exact cnn_rise h1, by rw [h2]; exact rise_str _, ?_⟩
    rw [h2]
    rcases canO_spec (rise (cnA L)) with ⟨h3, h4, _⟩ | ⟨h3, _⟩
    · exact Prod.ext h4 h3
    · rw [e] at h; exact absurd h h3
  · exact absurd h h1
theorem card_can {a : List F3} (h : IsCard a) : canL a = (a, 0) := by
  obtain ⟨h1, h2⟩ := cnn_all h.cnn
  rw [canL_ok h1, h2, rise_self h.str, h.can]
theorem card_txt {a : List F3} (h : IsCard a) : txtL a = (txt a, 0) := by
  unfold txtL
  rw [card_can h, if_pos rfl]
theorem card_nums {a : List F3} (h : IsCard a) : a.length ≤ 12 ∧ (txt a).size ≤ 900 ∧ cnt 1 a = 1 ∧ cnt 2 a ≤ 1 ∧ cnt 5 a ≤ 1 := by
  rcases canO_spec a with ⟨_, _, h3⟩ | ⟨h1, _⟩
  · exact h3
  · rw [h.can] at h1; exact absurd rfl h1
theorem heads_ten : ∀ k : Fin 7, ∀ l : Fin 4, (10 : UInt8) ∉ (headW (k.val : Int) (l.val : Int)).data.toList := by decide +kernel
theorem head_ten {k l : Int} (h1 : 0 ≤ k) (h2 : k ≤ 6) (h3 : 0 ≤ l) (h4 : l ≤ 3) : (10 : UInt8) ∉ (headW k l).data.toList := by
  have := heads_ten ⟨k.toNat, by omega⟩ ⟨l.toNat, by omega⟩
  simp only at this
  rwa [Int.toNat_of_nonneg h1, Int.toNat_of_nonneg h3] at this
theorem clean_ten {s : ByteArray} (h : (cleanS s).2 = 0) : (10 : UInt8) ∉ s.data.toList := by
  intro h10
  have : s.data.toList.any ctl = true := List.any_eq_true.2 ⟨10, h10, by decide⟩
  unfold cleanS cleanOf at h
  rw [this, Bool.or_true, if_pos rfl] at h
  exact absurd h (by decide)
theorem value_ten {k : Int} {s : ByteArray} (h : (valueS k s).2 = 0) : (10 : UInt8) ∉ s.data.toList := by
  refine clean_ten ?_
  unfold valueS at h
  split at h
  · unfold telS telOf at h
    by_cases h0 : (cleanS s).2 = 0
    · exact h0
    · rw [if_neg h0] at h; exact absurd h h0
  · split at h
    · unfold mailS mailOf at h
      by_cases h0 : (cleanS s).2 = 0
      · exact h0
      · rw [if_neg h0] at h; exact absurd h h0
    · split at h
      · rename_i h5; exact h5.2
      · exact h
theorem line_ten {f : F3} (h : Cnn f) : (10 : UInt8) ∉ (lineF f.1 f.2.1 f.2.2).data.toList := by
  obtain ⟨k, l, v⟩ := f
  obtain ⟨h1, h2, h3⟩ := h
  simp only at h1 h3 ⊢
  obtain ⟨a1, a2, a3, a4⟩ := may_kinds h1
  have h4 := head_ten (by omega : 0 ≤ k) a2 a3 a4
  have h5 := value_ten h3
  unfold lineF
  rw [if_pos h1]
  simp only [ByteArray.data_append, Array.toList_append, List.mem_append]
  rintro ((h | h) | h)
  · exact h4 h
  · exact absurd h (by decide)
  · exact h5 h
theorem size_bs (l : List UInt8) : (⟨l.toArray⟩ : ByteArray).size = l.length := by show l.toArray.size = _; simp
theorem lineOf_cut (x r : List UInt8) (h : (10 : UInt8) ∉ x) : lineOf ⟨(x ++ 10 :: r).toArray⟩ = (⟨(x ++ [10]).toArray⟩, ⟨r.toArray⟩) := by
  have hi : indexByte (x ++ 10 :: r) 10 = (x.length : Int) := by rw [← index_one]; exact index_has x r 10 h
  unfold lineOf
  rw [show (⟨(x ++ 10 :: r).toArray⟩ : ByteArray).data.toList = x ++ 10 :: r from rfl, hi, if_pos (by omega), Int.toNat_natCast, size_bs]
  refine Prod.ext ?_ ?_
  · refine bs_ext ?_
    simp only [ByteArray.data_extract, Array.toList_extract]
    simp
    rw [List.take_append, List.take_of_length_le (by omega), show x.length + 1 - x.length = 1 by omega]
    rfl
  · refine bs_ext ?_
    simp only [ByteArray.data_extract, Array.toList_extract]
    simp
    exact List.take_of_length_le (by omega)
theorem lines_txt : ∀ a : List F3, (∀ f ∈ a, Cnn f) → linesB ⟨((a.map lnB).flatten).toArray⟩ = a.map fun f => ⟨(lnB f).toArray⟩
  | [], _ => linesB_nil rfl
  | f :: a, h => by
    have h10 := line_ten (h f List.mem_cons_self)
    have e : ((f :: a).map lnB).flatten = (lineF f.1 f.2.1 f.2.2).data.toList ++ 10 :: (a.map lnB).flatten := by
      simp [lnB]
    rw [e, linesB_cons (by rw [size_bs, List.length_append, List.length_cons]; omega), lineOf_cut _ _ h10]
    simp only
    rw [lines_txt a (fun g hg => h g (List.mem_cons_of_mem _ hg))]
    rfl
theorem trim_line (x : List UInt8) : trimN ⟨(x ++ [10]).toArray⟩ = ⟨x.toArray⟩ := by
  have e0 : (⟨(x ++ [10]).toArray⟩ : ByteArray).data.toList = x ++ [10] := rfl
  unfold trimN
  rw [e0]
  have hs : hasSuffix (x ++ [10]) [10] = true := by
    unfold hasSuffix
    simp
  unfold Lib.trimSuffix
  rw [if_pos hs]
  simp
theorem line_back {f : F3} (h : Cnn f) : perr ⟨(lnB f).toArray⟩ = 0 ∧ fof ⟨(lnB f).toArray⟩ = f := by
  have e : trimN ⟨(lnB f).toArray⟩ = lineF f.1 f.2.1 f.2.2 := trim_line _
  unfold perr fof
  rw [e, parse_line h.1]
  exact ⟨rfl, rfl⟩
theorem txt_flat (a : List F3) : txt a = ⟨((a.map lnB).flatten).toArray⟩ := by unfold txt lnL; rw [List.take_length]
theorem card_back {a : List F3} (h : IsCard a) : parL (txt a) = (a, 0) := by
  have hl : linesB (txt a) = a.map fun f => ⟨(lnB f).toArray⟩ := by rw [txt_flat]; exact lines_txt a h.cnn
  have hfl : flds (linesB (txt a)) = a := by
    rw [hl]
    unfold flds
    rw [List.map_map]
    conv => rhs; rw [← List.map_id a]
    exact List.map_congr_left fun f hf => (line_back (h.cnn f hf)).2
  have hok : (linesB (txt a)).any (fun x => perr x != 0) = false := by
    rw [hl, Bool.eq_false_iff]
    intro hh
    obtain ⟨x, hx, hp⟩ := List.any_eq_true.1 hh
    obtain ⟨f, hf, rfl⟩ := List.mem_map.1 hx
    rw [(line_back (h.cnn f hf)).1] at hp
    exact absurd hp (by decide)
  unfold parL
  rw [if_neg (by have := (card_nums h).2.1; omega), hok, if_neg (by decide), hfl, card_txt h, if_neg (by simp)]
/-- What Parse answers. -/
theorem parL_cases (s : ByteArray) : ((parL s).2 = 0 ∧ txtL (parL s).1 = (s, 0) ∧ isC s = true) ∨ ((parL s).2 = 1 ∧ (parL s).1 = [] ∧ isC s = false) := by
  unfold isC parL
  split
  · exact .inr ⟨rfl, rfl, rfl⟩
  · split
    · exact .inr ⟨rfl, rfl, rfl⟩
    · split
      · exact .inr ⟨rfl, rfl, rfl⟩
      · rename_i h
        refine .inl ⟨rfl, ?_, rfl⟩
        have h1 : ¬ (txtL (flds (linesB s))).2 ≠ 0 := fun hh => h (.inl hh)
        have h2 : ¬ (txtL (flds (linesB s))).1 ≠ s := fun hh => h (.inr hh)
        exact Prod.ext (Classical.not_not.1 h2) (Classical.not_not.1 h1)
end Go.Proofs.YtdfalfmeejgcoaaGreatDoor
/- Lines of a contact: the document's own Less. -/
namespace Go.Proofs.YtdfalfmeejgcoaaGreatDoor
open Go.RowKit
open Go.Lib
set_option linter.unusedVariables false
set_option maxRecDepth 20000
attribute [local go_sem ↓] Go.wp_at_zero Go.wp_at_succ
set_option maxHeartbeats 2000000 in
theorem frless_any (k l : Int) (v : ByteArray) (k2 l2 : Int) (v2 : ByteArray) (w : World) : Calls Tryz.prog 48 #[fieldV k l v, fieldV k2 l2 v2] w fun e w' => e = .returned (.bool (lessF k l v k2 l2 v2)) ∧ Below w.heap.size w w' := by
  obtain ⟨r, hr⟩ : ∃ r, lessF k l v k2 l2 v2 = r := ⟨_, rfl⟩
  rw [hr]
  have HR := Lib.hid (show r = if k = k2 then (if l = l2 then Op.bytesLess v.toList v2.toList else decide (l < l2)) else decide (k < k2) by rw [← hr]; rfl)
  clear hr
  by_cases h : k = k2
  · have d : (k != k2) = false := by simpa using h
    by_cases g : l = l2
    · have d2 : (l != l2) = false := by simpa using g
      have H0 := Lib.hid (show r = Op.bytesLess v.toList v2.toList by rw [HR.out, if_pos h, if_pos g])
      go_enter Tryz.func48, Tryz.ntmps48
      go_wp2
      go_ret
      exact ⟨by rw [H0.out]; rfl, two_boxes _ _ _ _⟩
    · have d2 : (l != l2) = true := by simpa using g
      have H0 := Lib.hid (show r = decide (l < l2) by rw [HR.out, if_pos h, if_neg g])
      go_enter Tryz.func48, Tryz.ntmps48
      go_wp2
      go_ret
      exact ⟨by rw [H0.out]; rfl, two_boxes _ _ _ _⟩
  · have d : (k != k2) = true := by simpa using h
    have H0 := Lib.hid (show r = decide (k < k2) by rw [HR.out, if_neg h])
    go_enter Tryz.func48, Tryz.ntmps48
    go_wp2
    go_ret
    exact ⟨by rw [H0.out]; rfl, two_boxes _ _ _ _⟩
end Go.Proofs.YtdfalfmeejgcoaaGreatDoor
namespace Go.Proofs.YtdfalfmeejgcoaaGreatDoor
open Go.RowKit Go.Lib
set_option linter.unusedVariables false
def rcG : Nat → List UInt8 → Nat
  | 0, _ => 0
  | f + 1, l => if l = [] then 0 else 1 + rcG f (l.drop (decodeL l).2)
theorem rc_list (s : ByteArray) : ∀ fuel pos, runeCountFrom s fuel pos = rcG fuel (s.data.toList.drop pos)
  | 0, _ => rfl
  | f + 1, pos => by
    have ih := rc_list s f (pos + (Utf8.decode s pos).2)
    unfold runeCountFrom rcG
    by_cases h : pos < s.size
    · rw [if_pos h, if_neg (fun e => by have := congrArg List.length e; simp at this; omega), ih, decodeL_drop, List.drop_drop]
    · rw [if_neg h, if_pos (List.drop_of_length_le (by simp; omega))]
theorem rcG_nil : ∀ n, rcG n [] = 0
  | 0 => rfl
  | _ + 1 => by simp [rcG]
theorem rcG_fuel : ∀ (n m : Nat) (l : List UInt8), l.length ≤ n → l.length ≤ m → rcG n l = rcG m l
  | 0, m, l, hn, _ => by
    obtain rfl : l = [] := List.eq_nil_of_length_eq_zero (by omega)
    rw [rcG_nil, rcG_nil]
  | n + 1, 0, l, _, hm => by
    obtain rfl : l = [] := List.eq_nil_of_length_eq_zero (by omega)
    rw [rcG_nil, rcG_nil]
  | n + 1, m + 1, l, hn, hm => by
    unfold rcG
    by_cases hne : l = []
    · rw [if_pos hne, if_pos hne]
    · have hw := decodeL_width l
      have hl : 0 < l.length := List.length_pos_iff.2 hne
      rw [if_neg hne, if_neg hne, rcG_fuel n m _ (by simp; omega) (by simp; omega)]
def rcL (l : List UInt8) : Nat := rcG l.length l
theorem runeCount_rcL (s : ByteArray) : runeCount s = rcL s.data.toList := by
  unfold runeCount rcL
  rw [rc_list, List.drop_zero]
  simp
theorem rcL_nil : rcL [] = 0 := rfl
theorem rcL_step (l : List UInt8) (hne : l ≠ []) : rcL l = 1 + rcL (l.drop (decodeL l).2) := by
  have hw := decodeL_width l
  have hl : 0 < l.length := List.length_pos_iff.2 hne
  obtain ⟨n, hn⟩ : ∃ n, l.length = n + 1 := ⟨l.length - 1, by omega⟩
  have e : rcL l = rcG (n + 1) l := by unfold rcL; rw [hn]
  rw [e]
  unfold rcG rcL
  rw [if_neg hne, rcG_fuel n (l.drop (decodeL l).2).length _ (by simp; omega) (Nat.le_refl _)]
theorem rcL_cons (c : UInt8) (t : List UInt8) (h : c.toNat < 128) : rcL (c :: t) = 1 + rcL t := by
  rw [rcL_step _ (by simp), decodeL_ascii c t h]; rfl
set_option maxHeartbeats 2000000 in
theorem lead_run2 (l : List UInt8) (hne : l ≠ []) (h0 : 128 ≤ (l.getD 0 0).toNat) (hv : validD l = true) :
    ∃ k, 2 ≤ k ∧ k ≤ l.length ∧ validD (l.drop k) = true ∧ (∀ j, j < k → 128 ≤ (l.getD j 0).toNat ∧ (0 < j → (l.getD j 0).toNat ≤ 191)) ∧ ∀ m : List UInt8, k ≤ m.length → (∀ j, j < k → m.getD j 0 = l.getD j 0) → validD m = validD (m.drop k) ∧ (decodeL m).2 = k := by
  rw [validD_lead l hne h0] at hv
  have fin : ∀ sz lo hi, firstT (l.getD 0 0).toNat % 8 = sz → accLo (firstT (l.getD 0 0).toNat / 16) = lo → accHi (firstT (l.getD 0 0).toNat / 16) = hi → (sz = 2 ∨ sz = 3 ∨ sz = 4 → 128 ≤ lo ∧ hi ≤ 191) → (sz = 2 ∨ sz = 3 ∨ sz = 4 ∨ (sz ≠ 2 ∧ sz ≠ 3 ∧ sz ≠ 4)) →
      ∃ k, 2 ≤ k ∧ k ≤ l.length ∧ validD (l.drop k) = true ∧ (∀ j, j < k → 128 ≤ (l.getD j 0).toNat ∧ (0 < j → (l.getD j 0).toNat ≤ 191)) ∧ ∀ m : List UInt8, k ≤ m.length → (∀ j, j < k → m.getD j 0 = l.getD j 0) → validD m = validD (m.drop k) ∧ (decodeL m).2 = k := by
    intro sz lo hi e1 e2 e3 hlo hsz
    rw [e1, e2, e3] at hv
    have hm : ∀ (k : Nat) (m : List UInt8), 2 ≤ k → k ≤ m.length → (∀ j, j < k → m.getD j 0 = l.getD j 0) → checkN m.length (m.getD 1 0).toNat (m.getD 2 0).toNat (m.getD 3 0).toNat sz lo hi = some k → validD m = validD (m.drop k) ∧ (decodeL m).2 = k := by
      intro k m h2 hk he hc
      have h00 := he 0 (by omega)
      refine ⟨by rw [validD_lead m (by rintro rfl; simp at hk; omega) (by rw [h00]; exact h0), h00, e1, e2, e3, hc], ?_⟩
      rw [decodeL_N]
      rcases check_decode m.length (m.getD 0 0).toNat (m.getD 1 0).toNat (m.getD 2 0).toNat (m.getD 3 0).toNat (by omega) (by rw [h00]; exact h0) (m.getD 0 0).toNat_lt (m.getD 1 0).toNat_lt (m.getD 2 0).toNat_lt (m.getD 3 0).toNat_lt with ⟨hc', _⟩ | ⟨k', _, hc', hd⟩
      · rw [h00, e1, e2, e3, hc] at hc'; cases hc'
      · rw [h00, e1, e2, e3, hc] at hc'
        rw [hd]; exact (Option.some.inj hc').symm
    rcases hsz with rfl | rfl | rfl | ⟨n2, n3, n4⟩
    · have hlo := hlo (by decide)
      unfold checkN at hv hm
      simp only [if_true] at hv hm
      split at hv
      next h => split at h <;> simp_all
      next k h =>
        split at h
        · cases h
        · obtain rfl := Option.some.inj h
          refine ⟨2, by omega, by omega, hv, fun j hj => ?_, fun m hk he => hm 2 m (by omega) hk he ?_⟩
          · match j, hj with
            | 0, _ => exact ⟨h0, fun h => absurd h (by omega)⟩
            | 1, _ => omega
          · rw [he 1 (by omega), if_neg (by omega)]
    · have hlo := hlo (by decide)
      unfold checkN at hv hm
      simp only [if_true, show ¬ (3 = 2) by decide, if_false] at hv hm
      split at hv
      next h => split at h <;> simp_all
      next k h =>
        split at h
        · cases h
        · obtain rfl := Option.some.inj h
          refine ⟨3, by omega, by omega, hv, fun j hj => ?_, fun m hk he => hm 3 m (by omega) hk he ?_⟩
          · match j, hj with
            | 0, _ => exact ⟨h0, fun h => absurd h (by omega)⟩
            | 1, _ => omega
            | 2, _ => omega
          · rw [he 1 (by omega), he 2 (by omega), if_neg (by omega)]
    · have hlo := hlo (by decide)
      unfold checkN at hv hm
      simp only [if_true, show ¬ (4 = 2) by decide, show ¬ (4 = 3) by decide, if_false] at hv hm
      split at hv
      next h => split at h <;> simp_all
      next k h =>
        split at h
        · cases h
        · obtain rfl := Option.some.inj h
          refine ⟨4, by omega, by omega, hv, fun j hj => ?_, fun m hk he => hm 4 m (by omega) hk he ?_⟩
          · match j, hj with
            | 0, _ => exact ⟨h0, fun h => absurd h (by omega)⟩
            | 1, _ => omega
            | 2, _ => omega
            | 3, _ => omega
          · rw [he 1 (by omega), he 2 (by omega), he 3 (by omega), if_neg (by omega)]
    · unfold checkN at hv
      rw [if_neg n2, if_neg n3, if_neg n4] at hv
      cases hv
  refine fin _ _ _ rfl rfl rfl ?_ (by omega)
  rcases firstT_cases (l.getD 0 0).toNat with h | h | h | h | h | h | h | h | h <;> rw [h] <;> decide
theorem lead_app (l : List UInt8) (k : Nat) (hk : k ≤ l.length) (h : ∀ m : List UInt8, k ≤ m.length → (∀ j, j < k → m.getD j 0 = l.getD j 0) → validD m = validD (m.drop k) ∧ (decodeL m).2 = k) (r : List UInt8) : (decodeL (l.take k ++ r)).2 = k := by
  have hl : (l.take k).length = k := by simp; omega
  exact (h (l.take k ++ r) (by simp; omega) (fun j hj => by
    simp only [List.getD_eq_getElem?_getD]
    rw [List.getElem?_append_left (by omega), List.getElem?_take, if_pos hj])).2
/-- A valid text and whatever stands behind it: as many signs as both. -/
theorem rcL_app : ∀ (n : Nat) (l r : List UInt8), l.length ≤ n → validD l = true → rcL (l ++ r) = rcL l + rcL r
  | _, [], r, _, _ => by rw [List.nil_append, rcL_nil]; omega
  | 0, _ :: _, _, h, _ => by simp at h
  | n + 1, c :: t, r, h, hv => by
    by_cases hc : c.toNat < 128
    · rw [validD_cons c t hc] at hv
      rw [List.cons_append, rcL_cons _ _ hc, rcL_cons _ _ hc, rcL_app n t r (by simp at h; omega) hv]; omega
    · obtain ⟨k, h2, hk, hd, _, hm⟩ := lead_run2 (c :: t) (by simp) (by simp; omega) hv
      have e1 : c :: t = (c :: t).take k ++ (c :: t).drop k := (List.take_append_drop _ _).symm
      have w1 : (decodeL (c :: t)).2 = k := by have := lead_app _ k hk hm ((c :: t).drop k); rwa [← e1] at this
      have e2 : (c :: t) ++ r = (c :: t).take k ++ ((c :: t).drop k ++ r) := by rw [← List.append_assoc, ← e1]
      have w2 : (decodeL ((c :: t) ++ r)).2 = k := by rw [e2]; exact lead_app _ k hk hm _
      have d2 : ((c :: t) ++ r).drop k = (c :: t).drop k ++ r := List.drop_append_of_le_length hk
      rw [rcL_step ((c :: t) ++ r) (by simp), w2, d2, rcL_step (c :: t) (by simp), w1, rcL_app n _ r (by simp at h ⊢; omega) hd]
      omega
end Go.Proofs.YtdfalfmeejgcoaaGreatDoor
