/- How many signs a text has, by its bytes from the front. -/
import Derived.Test.YtlcchkpjcekinaaGreatDoorZam
import Derived.Test.YtlcchkpjcekinaaGreatDoorZaa
import Derived.Maps.AppendAt
import Derived.Lib.IndexBytes
import Derived.Test.YtlcchkpjcekinaaGreatDoorZah
import Derived.Test.YtlcchkpjcekinaaGreatDoorZad
import Derived.Lib.TrimUEq
import Derived.Lib.RuneCount
/- card: the contracts wherever the walk stands; rows and pieces of fields; what a card is. -/
namespace Go.Proofs.YtlcchkpjcekinaaGreatDoor
open Go.RowKit
open Go.Lib hiding intOf
open Go.Sort Go.Proofs
set_option linter.unusedVariables false
set_option linter.unusedSimpArgs false
set_option maxRecDepth 100000
theorem errL_zero : ∀ L : List F3, errL L = 0 ↔ ∀ f ∈ L, (cn1 f).2 = 0
  | [] => by simp [errL]
  | f :: L => by
    unfold errL
    by_cases h : (cn1 f).2 = 0
    · rw [if_pos h, errL_zero L]
      simp [h]
    · rw [if_neg h]
      simp [h]
theorem canL_same {L M : List F3} (h : ∀ x, x ∈ L ↔ x ∈ M) : (errL L = 0 ∧ errL M = 0 ∧ canL L = canL M) ∨ (errL L ≠ 0 ∧ errL M ≠ 0) := by
  by_cases h0 : errL L = 0
  · have h1 : errL M = 0 := (errL_zero M).2 fun f hf => (errL_zero L).1 h0 f ((h f).2 hf)
    refine .inl ⟨h0, h1, ?_⟩
    rw [canL_ok h0, canL_ok h1]
    congr 1
    refine rise_of (rise_str _) fun x => ?_
    rw [rise_mem]
    unfold cnA
    simp only [List.mem_map]
    exact ⟨fun ⟨f, hf, e⟩ => ⟨f, (h f).2 hf, e⟩, fun ⟨f, hf, e⟩ => ⟨f, (h f).1 hf, e⟩⟩
  · exact .inr ⟨h0, fun h1 => h0 ((errL_zero L).2 fun f hf => (errL_zero M).1 h1 f ((h f).1 hf))⟩
theorem txtL_same {L M : List F3} (h : ∀ x, x ∈ L ↔ x ∈ M) : (txtL L).1 = (txtL M).1 ∧ ((txtL L).2 == 0) = ((txtL M).2 == 0) := by
  rcases canL_same h with ⟨_, _, e⟩ | ⟨h1, h2⟩
  · unfold txtL; rw [e]; exact ⟨rfl, rfl⟩
  · have e1 := canL_err rfl h1
    have e2 := canL_err rfl h2
    unfold txtL
    rw [e1, e2]
    simp [h1, h2, beq_eq_false_iff_ne.2 h1, beq_eq_false_iff_ne.2 h2]
/-- A slice of fields appended onto a row of fields. -/
theorem fr3_app {P : Program} {ops : Array Oper} {rest : List Oper} {o : Oper} {a : Act} {Q : Exit → Act → World → Prop} (w : World) (hgd : o.guard = none) (s x : Operand) (t : TypeId)
    (ho : o.op = .call { callee := .builtin .append, args := #[s, x], argTypes := #[t, t] }) (ht : P.underlying t = some (.slice 37)) (hinf : (P.info? 37).map (fun i => (i.zero, i.size, i.bytes)) = some (some (.agg #[.int .i64 0, .int .i64 0, .string ⟨#[]⟩]), 3, 32))
    (B : Nat) (V : Value) (n : Nat) (L : List F3) (hs : a.eval s = V) (h : Fr3 w B V n L) (ad : Addr) (m c : Nat) (M : List F3) (hm : M.length = m) (hx : a.eval x = .slice (some ad) m c) (hM : ∀ j u, (encL M)[j]? = some u → w.cell? (ad.add j) = some u) (hn : n + m ≤ 1000000) (hB : B ≤ w.heap.size)
    (hK : ∀ V' w', Fr3 w' B V' (n + m) (L ++ M) → w.grownBy w' V.ownBlock → wpList P ops Q rest (a.put o.dst V') w') : wpList P ops Q (o :: rest) a w := by
  obtain ⟨i, hi, hz, hsz, hby⟩ := info_of hinf
  have hl : ∀ M : List F3, (encL M).length = M.length * 3 := fun M => by
    induction M with
    | nil => rfl
    | cons f M ih =>
      have e : encL (f :: M) = encF f ++ encL M := by unfold encL; simp
      rw [e, List.length_append, ih, List.length_cons]
      show 3 + _ = _
      omega
  refine wpList_append_own_at (w := w) hgd s x t ho B 37 i _ 3 32 ht hi hz hsz hby rfl (by decide) V n (encL L) hs h ad m c (encL M) hx (by rw [hl, hm]) hM ?c2 ?c3 ?c4 hB ?_
  case c2 =>
    intro y hy
    unfold encL at hy
    rw [List.mem_flatten] at hy
    obtain ⟨l, h1, h2⟩ := hy
    rw [List.mem_map] at h1
    obtain ⟨f, _, rfl⟩ := h1
    unfold encF at h2
    simp at h2
    rcases h2 with rfl | rfl | rfl <;> rfl
  case c3 => unfold maxLen; omega
  case c4 => omega
  intro v' w' h1 h2 _ _
  refine hK v' w' ?_ h2
  unfold Fr3
  have e : encL (L ++ M) = encL L ++ encL M := by unfold encL; simp
  rw [e]
  exact h1
theorem encL_append (L M : List F3) : encL (L ++ M) = encL L ++ encL M := by unfold encL; simp
/-- The cells of a piece of a slice of fields. -/
theorem fv_cells {w : World} {A : Option Addr} {cap b off : Nat} {L : List F3} (h : Fv w A cap b off L) (k : Nat) (j : Nat) (u : Value) (hj : (encL (L.drop k))[j]? = some u) : w.cell? ((⟨b, off + k * 3, none⟩ : Addr).add j) = some u := by
  rw [encL_get, List.getElem?_drop] at hj
  cases hf : L[k + j / 3]? with
  | none => rw [hf] at hj; cases hj
  | some f =>
    rw [hf] at hj
    simp only at hj
    obtain ⟨_, _, c0, c1, c2⟩ := h.2 _ f hf
    have h3 : j % 3 < 3 := Nat.mod_lt _ (by decide)
    have e : (⟨b, off + k * 3, none⟩ : Addr).add j = ⟨b, off + (k + j / 3) * 3 + j % 3, none⟩ := by
      rw [add_plain]
      congr 1
      omega
    rw [e]
    match j % 3, h3, hj with
    | 0, _, hj => cases hj; exact c0
    | 1, _, hj => cases hj; exact c1
    | 2, _, hj => cases hj; exact c2
theorem cells_take {w : World} {ad : Addr} {L : List F3} (k : Nat) (h : ∀ j u, (encL L)[j]? = some u → w.cell? (ad.add j) = some u) : ∀ j u, (encL (L.take k))[j]? = some u → w.cell? (ad.add j) = some u := fun j u hj => by
  refine h j u ?_
  have e : encL L = encL (L.take k) ++ encL (L.drop k) := by rw [← encL_append, List.take_append_drop]
  rw [e, List.getElem?_append_left (List.getElem?_eq_some_iff.1 hj).1]
  exact hj
theorem order_mem {L : List F3} {k : Nat} (x : F3) : x ∈ L ↔ x ∈ L.drop k ++ L.take k := by
  have e : L = L.take k ++ L.drop k := (List.take_append_drop k L).symm
  constructor
  · intro h
    rw [e] at h
    rcases List.mem_append.1 h with h | h
    · exact List.mem_append_right _ h
    · exact List.mem_append_left _ h
  · intro h
    rw [e]
    rcases List.mem_append.1 h with h | h
    · exact List.mem_append_right _ h
    · exact List.mem_append_left _ h
theorem cn1_ok {f : F3} (h : (cn1 f).2 = 0) : mayF (cn1 f).1.1 (cn1 f).1.2.1 (cn1 f).1.2.2 = true ∧ cn1 (cn1 f).1 = ((cn1 f).1, 0) ∧ (cn1 f).1.1 = f.1 ∧ (valueS (cn1 f).1.1 (cn1 f).1.2.2).2 = 0 := by
  obtain ⟨k, l, v⟩ := f
  unfold cn1 at h ⊢
  simp only at h ⊢
  by_cases h1 : (kindW k).toList.isEmpty = true ∨ labelledB k l = false
  · rw [if_pos h1] at h
    exact absurd h (by decide)
  · rw [if_neg h1] at h ⊢
    by_cases h2 : (valueS k v).2 = 0
    · rw [if_pos h2] at h ⊢
      have hv := value_self k v h2
      simp only
      refine ⟨?_, by rw [if_neg h1, hv, if_pos rfl], trivial, by rw [hv]⟩
      have h3 : (kindW k).toList.isEmpty = false := by
        cases hh : (kindW k).toList.isEmpty with
        | true => exact absurd (.inl hh) h1
        | false => rfl
      have h4 : labelledB k l = true := by
        cases hh : labelledB k l with
        | false => exact absurd (.inr hh) h1
        | true => rfl
      unfold mayF
      rw [h3, h4, hv]
      simp
    · rw [if_neg h2] at h
      exact absurd h h2
/-- What a canonical field is like. -/
def Cnn (f : F3) : Prop := mayF f.1 f.2.1 f.2.2 = true ∧ cn1 f = (f, 0) ∧ (valueS f.1 f.2.2).2 = 0
theorem cnn_of {f : F3} (h : (cn1 f).2 = 0) : Cnn (cn1 f).1 := ⟨(cn1_ok h).1, (cn1_ok h).2.1, (cn1_ok h).2.2.2⟩
theorem cnn_rise {L : List F3} (h : errL L = 0) : ∀ f ∈ rise (cnA L), Cnn f := fun f hf => by
  rw [rise_mem] at hf
  obtain ⟨x, hx, rfl⟩ := List.mem_map.1 hf
  exact cnn_of ((errL_zero L).1 h x hx)
theorem cnn_all {L : List F3} (h : ∀ f ∈ L, Cnn f) : errL L = 0 ∧ cnA L = L := by
  refine ⟨(errL_zero L).2 fun f hf => by rw [(h f hf).2.1], ?_⟩
  unfold cnA
  conv => rhs; rw [← List.map_id L]
  exact List.map_congr_left fun f hf => by rw [(h f hf).2.1]; rfl
/-- A card. -/
structure IsCard (a : List F3) : Prop where
  cnn : ∀ f ∈ a, Cnn f
  str : Str a
  can : canO a = (a, 0)
theorem card_of {L : List F3} (h : (canL L).2 = 0) : IsCard (canL L).1 := by
  rcases canL_spec L with ⟨_, h1, h2, _⟩ | ⟨h1, _⟩
  · have e := canL_ok h1
    refine ⟨by rw [h2]; exact cnn_rise h1, by rw [h2]; exact rise_str _, ?_⟩
    rw [h2]
    rcases canO_spec (rise (cnA L)) with ⟨h3, h4, _⟩ | ⟨h3, _⟩
    · exact Prod.ext h4 h3
    · rw [e] at h; exact absurd h h3
  · exact absurd h h1
theorem card_can {a : List F3} (h : IsCard a) : canL a = (a, 0) := by
  obtain ⟨h1, h2⟩ := cnn_all h.cnn
  rw [canL_ok h1, h2, rise_self h.str, h.can]
theorem card_txt {a : List F3} (h : IsCard a) : txtL a = (txt a, 0) := by
  unfold txtL
  rw [card_can h, if_pos rfl]
theorem card_nums {a : List F3} (h : IsCard a) : a.length ≤ 12 ∧ (txt a).size ≤ 900 ∧ cnt 1 a = 1 ∧ cnt 2 a ≤ 1 ∧ cnt 5 a ≤ 1 := by
  rcases canO_spec a with ⟨_, _, h3⟩ | ⟨h1, _⟩
  · exact h3
  · rw [h.can] at h1; exact absurd rfl h1
theorem heads_ten : ∀ k : Fin 7, ∀ l : Fin 4, (10 : UInt8) ∉ (headW (k.val : Int) (l.val : Int)).data.toList := by decide +kernel
theorem head_ten {k l : Int} (h1 : 0 ≤ k) (h2 : k ≤ 6) (h3 : 0 ≤ l) (h4 : l ≤ 3) : (10 : UInt8) ∉ (headW k l).data.toList := by
  have := heads_ten ⟨k.toNat, by omega⟩ ⟨l.toNat, by omega⟩
  simp only at this
  rwa [Int.toNat_of_nonneg h1, Int.toNat_of_nonneg h3] at this
theorem clean_ten {s : ByteArray} (h : (cleanS s).2 = 0) : (10 : UInt8) ∉ s.data.toList := by
  intro h10
  have : s.data.toList.any ctl = true := List.any_eq_true.2 ⟨10, h10, by decide⟩
  unfold cleanS cleanOf at h
  rw [this, Bool.or_true, if_pos rfl] at h
  exact absurd h (by decide)
theorem value_ten {k : Int} {s : ByteArray} (h : (valueS k s).2 = 0) : (10 : UInt8) ∉ s.data.toList := by
  refine clean_ten ?_
  unfold valueS at h
  split at h
  · unfold telS telOf at h
    by_cases h0 : (cleanS s).2 = 0
    · exact h0
    · rw [if_neg h0] at h; exact absurd h h0
  · split at h
    · unfold mailS mailOf at h
      by_cases h0 : (cleanS s).2 = 0
      · exact h0
      · rw [if_neg h0] at h; exact absurd h h0
    · split at h
      · rename_i h5; exact h5.2
      · exact h
theorem line_ten {f : F3} (h : Cnn f) : (10 : UInt8) ∉ (lineF f.1 f.2.1 f.2.2).data.toList := by
  obtain ⟨k, l, v⟩ := f
  obtain ⟨h1, h2, h3⟩ := h
  simp only at h1 h3 ⊢
  obtain ⟨a1, a2, a3, a4⟩ := may_kinds h1
  have h4 := head_ten (by omega : 0 ≤ k) a2 a3 a4
  have h5 := value_ten h3
  unfold lineF
  rw [if_pos h1]
  simp only [ByteArray.data_append, Array.toList_append, List.mem_append]
  rintro ((h | h) | h)
  · exact h4 h
  · exact absurd h (by decide)
  · exact h5 h
theorem size_bs (l : List UInt8) : (⟨l.toArray⟩ : ByteArray).size = l.length := by show l.toArray.size = _; simp
theorem lineOf_cut (x r : List UInt8) (h : (10 : UInt8) ∉ x) : lineOf ⟨(x ++ 10 :: r).toArray⟩ = (⟨(x ++ [10]).toArray⟩, ⟨r.toArray⟩) := by
  have hi : indexByte (x ++ 10 :: r) 10 = (x.length : Int) := by rw [← index_one]; exact index_has x r 10 h
  unfold lineOf
  rw [show (⟨(x ++ 10 :: r).toArray⟩ : ByteArray).data.toList = x ++ 10 :: r from rfl, hi, if_pos (by omega), Int.toNat_natCast, size_bs]
  refine Prod.ext ?_ ?_
  · refine bs_ext ?_
    simp only [ByteArray.data_extract, Array.toList_extract]
    simp
    rw [List.take_append, List.take_of_length_le (by omega), show x.length + 1 - x.length = 1 by omega]
    rfl
  · refine bs_ext ?_
    simp only [ByteArray.data_extract, Array.toList_extract]
    simp
    exact List.take_of_length_le (by omega)
theorem lines_txt : ∀ a : List F3, (∀ f ∈ a, Cnn f) → linesB ⟨((a.map lnB).flatten).toArray⟩ = a.map fun f => ⟨(lnB f).toArray⟩
  | [], _ => linesB_nil rfl
  | f :: a, h => by
    have h10 := line_ten (h f List.mem_cons_self)
    have e : ((f :: a).map lnB).flatten = (lineF f.1 f.2.1 f.2.2).data.toList ++ 10 :: (a.map lnB).flatten := by
      simp [lnB]
    rw [e, linesB_cons (by rw [size_bs, List.length_append, List.length_cons]; omega), lineOf_cut _ _ h10]
    simp only
    rw [lines_txt a (fun g hg => h g (List.mem_cons_of_mem _ hg))]
    rfl
theorem trim_line (x : List UInt8) : trimN ⟨(x ++ [10]).toArray⟩ = ⟨x.toArray⟩ := by
  have e0 : (⟨(x ++ [10]).toArray⟩ : ByteArray).data.toList = x ++ [10] := rfl
  unfold trimN
  rw [e0]
  have hs : hasSuffix (x ++ [10]) [10] = true := by
    unfold hasSuffix
    simp
  unfold Lib.trimSuffix
  rw [if_pos hs]
  simp
theorem line_back {f : F3} (h : Cnn f) : perr ⟨(lnB f).toArray⟩ = 0 ∧ fof ⟨(lnB f).toArray⟩ = f := by
  have e : trimN ⟨(lnB f).toArray⟩ = lineF f.1 f.2.1 f.2.2 := trim_line _
  unfold perr fof
  rw [e, parse_line h.1]
  exact ⟨rfl, rfl⟩
theorem txt_flat (a : List F3) : txt a = ⟨((a.map lnB).flatten).toArray⟩ := by unfold txt lnL; rw [List.take_length]
theorem card_back {a : List F3} (h : IsCard a) : parL (txt a) = (a, 0) := by
  have hl : linesB (txt a) = a.map fun f => ⟨(lnB f).toArray⟩ := by rw [txt_flat]; exact lines_txt a h.cnn
  have hfl : flds (linesB (txt a)) = a := by
    rw [hl]
    unfold flds
    rw [List.map_map]
    conv => rhs; rw [← List.map_id a]
    exact List.map_congr_left fun f hf => (line_back (h.cnn f hf)).2
  have hok : (linesB (txt a)).any (fun x => perr x != 0) = false := by
    rw [hl, Bool.eq_false_iff]
    intro hh
    obtain ⟨x, hx, hp⟩ := List.any_eq_true.1 hh
    obtain ⟨f, hf, rfl⟩ := List.mem_map.1 hx
    rw [(line_back (h.cnn f hf)).1] at hp
    exact absurd hp (by decide)
  unfold parL
  rw [if_neg (by have := (card_nums h).2.1; omega), hok, if_neg (by decide), hfl, card_txt h, if_neg (by simp)]
/-- What Parse answers. -/
theorem parL_cases (s : ByteArray) : ((parL s).2 = 0 ∧ txtL (parL s).1 = (s, 0) ∧ isC s = true) ∨ ((parL s).2 = 1 ∧ (parL s).1 = [] ∧ isC s = false) := by
  unfold isC parL
  split
  · exact .inr ⟨rfl, rfl, rfl⟩
  · split
    · exact .inr ⟨rfl, rfl, rfl⟩
    · split
      · exact .inr ⟨rfl, rfl, rfl⟩
      · rename_i h
        refine .inl ⟨rfl, ?_, rfl⟩
        have h1 : ¬ (txtL (flds (linesB s))).2 ≠ 0 := fun hh => h (.inl hh)
        have h2 : ¬ (txtL (flds (linesB s))).1 ≠ s := fun hh => h (.inr hh)
        exact Prod.ext (Classical.not_not.1 h2) (Classical.not_not.1 h1)
theorem text_on {v : World} {A : Option Addr} {cap b off : Nat} {L : List F3} (n : Nat) (hn : L.length = n) (tv : ByteArray) (te : Int) (ht : txtL L = (tv, te)) (h : Fv v A cap b off L) (h1 : L.length ≤ 1000) (hv : ∀ f ∈ L, f.2.2.size ≤ 1000000) (hE : Env v) :
    Calls Tryz.prog 23 #[.slice A n cap] v fun e w' => e = .returned (.tuple #[.string tv, .int .i64 te]) ∧ Below v.heap.size v w' := by
  have := text_any h h1 hv hE
  rw [ht, hn] at this
  exact this
set_option maxHeartbeats 4000000 in
theorem fields_true {w : World} {A1 A2 : Option Addr} {c1 c2 b1 b2 o1 o2 : Nat} {L : List F3} (h1 : Fv w A1 c1 b1 o1 L) (h2 : Fv w A2 c2 b2 o2 L) (n : Nat) (hn : L.length = n) (hs : n ≤ 100000) : Calls Tryz.prog 14 #[.slice A1 n c1, .slice A2 n c2] w fun e w' => e = .returned (.bool true) ∧ Below w.heap.size w w' := by
  have H1 := Lib.hid h1
  have H2 := Lib.hid h2
  have HN := Lib.hid hn
  have hnn : ((n : Int) == (n : Int)) = true := beq_self_eq_true _
  clear h1 h2 hn
  go_enter Tryz.func14, Tryz.ntmps14
  go_wp2
  go_loopw [5] (fun i wr => ∃ q : Nat, q ≤ n ∧ i = .int .i64 (q : Int) ∧ Below w.heap.size w wr) (fun i _ => n - (intOf i).toNat)
  case atStart => exact ⟨0, Nat.zero_le _, rfl, Below.refl _ _⟩
  case round =>
    obtain ⟨q, hq, rfl, hb⟩ := hrel
    have HB := Lib.hid hb
    clear hb
    by_cases hql : q < n
    · obtain ⟨f, hf⟩ : ∃ f, L[q]? = some f := ⟨L[q]'(by rw [HN.out]; exact hql), List.getElem?_eq_getElem _⟩
      obtain ⟨rfl, _, a0, a1, a2⟩ := (H1.out.below HB.out).2 q f hf
      obtain ⟨rfl, _, d0, d1, d2⟩ := (H2.out.below HB.out).2 q f hf
      obtain ⟨f1, f2, f3⟩ := f
      simp only at a0 a1 a2 d0 d1 d2
      have heq : ∀ wq, Sem.run Tryz.prog (binOp .neq 37 (.agg #[.int .i64 f1, .int .i64 f2, .string f3]) (.agg #[.int .i64 f1, .int .i64 f2, .string f3])) wq = .ok (.bool false) wq := fun wq => by have := neF_run (f1, f2, f3) (f1, f2, f3) wq; rw [decide_eq_true rfl] at this; exact this
      have hqI : (q : Int) < (n : Int) := by omega
      clear hf
      go_wp2_with fail
      go_quiet (fail)
      go_wp2
      go_roundw
      case rel => exact ⟨q + 1, by omega, by go_num, ⟨HB.out.os, HB.out.tape, HB.out.output, HB.out.size, HB.out.block⟩⟩
      case measure => simp [intOf]; omega
    · obtain rfl : q = n := by omega
      clear hql
      go_wp2
      go_ret
      exact ⟨rfl, HB.out⟩
theorem ccanon_on {v : World} {A : Option Addr} {cap b off : Nat} {L : List F3} (n : Nat) (hn : L.length = n) (rv : List F3) (re : Int) (hc : canL L = (rv, re)) (m : Nat) (hm : rv.length = m) (h : Fv v A cap b off L) (h1 : L.length ≤ 1000) (hv : ∀ f ∈ L, f.2.2.size ≤ 1000000) (hE : Env v) :
    Calls Tryz.prog 35 #[.slice A n cap] v fun e w' => ∃ A' cap' g, e = .returned (.tuple #[.slice A' m cap', .int .i64 re]) ∧ Fv w' A' cap' g 0 rv ∧ Below v.heap.size v w' := by
  have := canon_any h h1 hv hE
  rw [hc, hn] at this
  simp only [hm] at this
  exact this.mono fun e w' ⟨hb, A', cap', g, he, hf⟩ => ⟨A', cap', g, he, hf, hb⟩
theorem cparse_on (s : ByteArray) (hs : s.size ≤ 1000000) (rv : List F3) (re : Int) (hp : parL s = (rv, re)) (m : Nat) (hm : rv.length = m) (v : World) (hE : Env v) :
    Calls Tryz.prog 19 #[.string s] v fun e w' => ∃ A' cap' g, e = .returned (.tuple #[.slice A' m cap', .int .i64 re]) ∧ Fv w' A' cap' g 0 rv ∧ Below v.heap.size v w' := by
  have := parse_any s hs v hE
  rw [hp] at this
  simp only [hm] at this
  exact this.mono fun e w' ⟨hb, A', cap', g, he, hf⟩ => ⟨A', cap', g, he, hf, hb⟩
theorem parL_vals (s : ByteArray) (hs : s.size ≤ 1000000) : ∀ f ∈ (parL s).1, f.2.2.size ≤ 1000000 := fun f hf => by
  unfold parL at hf
  split at hf
  · cases hf
  · split at hf
    · cases hf
    · split at hf
      · cases hf
      · obtain ⟨x, hx, rfl⟩ := List.mem_map.1 hf
        have h1 := fof_size x
        have h2 := lines_mem_size _ _ x hx
        omega
theorem cnt_all (k : Int) (L : List F3) : cnt k L = (L.filter fun f => f.1 == k).length := by unfold cnt cntF; rw [List.take_length]
theorem len_two {α : Type} {x y : α} : ∀ {l : List α}, x ∈ l → y ∈ l → x ≠ y → 2 ≤ l.length
  | [], h, _, _ => by cases h
  | [z], h1, h2, hne => by rw [List.mem_singleton] at h1 h2; exact absurd (h1.trans h2.symm) hne
  | _ :: _ :: _, _, _, _ => by simp
theorem cnt_two {k : Int} {L : List F3} {x y : F3} (h1 : x ∈ L) (h2 : y ∈ L) (hx : x.1 = k) (hy : y.1 = k) (hne : x ≠ y) : 2 ≤ cnt k L := by
  rw [cnt_all]
  exact len_two (List.mem_filter.2 ⟨h1, by simpa using hx⟩) (List.mem_filter.2 ⟨h2, by simpa using hy⟩) hne
theorem label_name {l : Int} (h : labelledB 1 l = true) : l = 0 := by
  unfold labelledB at h
  by_cases h0 : l = 0
  · exact h0
  · exfalso
    simp [h0] at h
/-- A card begins with its name, and has no other one. -/
theorem card_head {a : List F3} (h : IsCard a) : ∃ v rest, a = (1, 0, v) :: rest ∧ Cnn (1, 0, v) ∧ cnt 1 rest = 0 := by
  have h1 := (card_nums h).2.2.1
  rw [cnt_all] at h1
  obtain ⟨f, hf⟩ : ∃ f, f ∈ a.filter fun f => f.1 == 1 := List.exists_mem_of_length_pos (by omega)
  obtain ⟨hf1, hf2⟩ := List.mem_filter.1 hf
  have hf3 : f.1 = 1 := by simpa using hf2
  match a, h, h1, hf1 with
  | g :: rest, h, h1, hf1 =>
    have hg := h.cnn g List.mem_cons_self
    have hgm := may_kinds hg.1
    have hg1 : g.1 = 1 := by
      rcases List.mem_cons.1 hf1 with e | hr
      · rw [← e]; exact hf3
      · have hlt := (List.pairwise_cons.1 h.str).1 f hr
        unfold ltF lessF at hlt
        by_cases he : g.1 = f.1
        · rw [he]; exact hf3
        · rw [if_neg he] at hlt
          have := of_decide_eq_true hlt
          omega
    obtain ⟨g1, g2, g3⟩ := g
    simp only at hg1
    subst hg1
    have hl : g2 = 0 := by
      have hm := hg.1
      simp only at hm
      unfold mayF at hm
      simp only [Bool.and_eq_true] at hm
      exact label_name (by first | exact hm.1.1.2 | exact hm.1.2 | exact hm.2.1.1 | exact hm.1.1.1.2)
    subst hl
    refine ⟨g3, rest, rfl, hg, ?_⟩
    rw [List.filter_cons, if_pos (by rfl), List.length_cons] at h1
    rw [cnt_all]
    omega
theorem card_tail {v : ByteArray} {rest : List F3} (h : IsCard ((1, 0, v) :: rest)) (h0 : cnt 1 rest = 0) : canL rest = ([], 1) := by
  obtain ⟨e1, e2⟩ := cnn_all (L := rest) fun f hf => h.cnn f (List.mem_cons_of_mem _ hf)
  have hs := (List.pairwise_cons.1 h.str).2
  have hn := (card_nums h).1
  rw [List.length_cons] at hn
  rw [canL_ok e1, e2, rise_self hs]
  unfold canO
  rw [if_neg (by omega), if_pos (.inl (by omega))]
theorem clean_out (s : ByteArray) : ((cleanS s).2 = 0 ∧ (cleanS s).1 ≠ ⟨#[]⟩) ∨ ((cleanS s).2 ≠ 0 ∧ (cleanS s).1 = ⟨#[]⟩) := by
  unfold cleanS cleanOf
  split
  · exact .inr ⟨by decide, rfl⟩
  · split
    · exact .inr ⟨by decide, rfl⟩
    · split
      · exact .inr ⟨by decide, rfl⟩
      · rename_i h _; exact .inl ⟨rfl, h⟩
theorem cn1_name (s : ByteArray) : cn1 (1, 0, s) = if (cleanS s).2 = 0 then ((1, 0, (cleanS s).1), 0) else ((0, 0, ⟨#[]⟩), (cleanS s).2) := by
  have hv : valueS 1 s = cleanS s := by unfold valueS; rw [if_neg (by decide), if_neg (by decide), if_neg (by omega)]
  have h1 : ¬ ((kindW 1).toList.isEmpty = true ∨ labelledB 1 0 = false) := by decide +kernel
  unfold cn1
  simp only
  rw [if_neg h1, hv]
theorem cnn_name {v : ByteArray} (h : Cnn (1, 0, v)) : (cleanS v).2 = 0 ∧ (cleanS v).1 = v ∧ v ≠ ⟨#[]⟩ := by
  have := h.2.1
  rw [cn1_name] at this
  split at this
  · rename_i h0
    have e : (cleanS v).1 = v := by have := congrArg (fun p : F3 × Int => p.1.2.2) this; simpa using this
    rcases clean_out v with ⟨_, h2⟩ | ⟨h2, _⟩
    · exact ⟨h0, e, by rw [e] at h2; exact h2⟩
    · exact absurd h0 h2
  · have := congrArg (fun p : F3 × Int => p.1.1) this
    exact absurd this (by simp)
/-- One more name. -/
theorem card_more {v : ByteArray} {rest : List F3} (h : IsCard ((1, 0, v) :: rest)) (hl : ((1, 0, v) :: rest).length < 11) (s : ByteArray) :
    ∃ rv re, canL ((1, 0, v) :: rest ++ [(1, 0, s)]) = (rv, re) ∧ (re != 0) = !(v.toList == (cleanS s).1.toList) := by
  obtain ⟨a, ha⟩ : ∃ a, (1, 0, v) :: rest = a := ⟨_, rfl⟩
  have hv := cnn_name (h.cnn _ List.mem_cons_self)
  have hmem : ((1, 0, v) : F3) ∈ a := ha ▸ List.mem_cons_self
  rw [ha] at h hl ⊢
  rcases clean_out s with ⟨h1, h2⟩ | ⟨h1, h2⟩
  · have hc : cn1 (1, 0, s) = ((1, 0, (cleanS s).1), 0) := by rw [cn1_name, if_pos h1]
    obtain ⟨e1, e2⟩ := cnn_all h.cnn
    have herr : errL (a ++ [(1, 0, s)]) = 0 := (errL_zero _).2 fun f hf => by
      rcases List.mem_append.1 hf with hf | hf
      · rw [(h.cnn f hf).2.1]
      · rw [List.mem_singleton.1 hf, hc]
    have hcn : cnA (a ++ [(1, 0, s)]) = a ++ [(1, 0, (cleanS s).1)] := by
      have : cnA (a ++ [(1, 0, s)]) = cnA a ++ [(cn1 (1, 0, s)).1] := by unfold cnA; rw [List.map_append]; rfl
      rw [this, e2, hc]
    rw [canL_ok herr, hcn]
    by_cases hvv : v = (cleanS s).1
    · rw [← hvv]
      have : rise (a ++ [(1, 0, v)]) = a := rise_of h.str fun x => by
        rw [List.mem_append, List.mem_singleton]
        exact ⟨.inl, fun hx => hx.elim id fun e => e ▸ hmem⟩
      rw [this, h.can]
      exact ⟨_, _, rfl, by simp⟩
    · have hlen : (rise (a ++ [(1, 0, (cleanS s).1)])).length ≤ 11 := by
        have := rise_length_le (a ++ [(1, 0, (cleanS s).1)])
        rw [List.length_append] at this
        simp only [List.length_cons, List.length_nil] at this
        omega
      have h2c : 2 ≤ cnt 1 (rise (a ++ [(1, 0, (cleanS s).1)])) := cnt_two (x := (1, 0, v)) (y := (1, 0, (cleanS s).1)) ((rise_mem _ _).2 (List.mem_append_left _ hmem)) ((rise_mem _ _).2 (List.mem_append_right _ (List.mem_singleton_self _))) rfl rfl (fun e => hvv (congrArg (fun f : F3 => f.2.2) e))
      refine ⟨[], 1, by unfold canO; rw [if_neg (by omega), if_pos (.inl (by omega))], ?_⟩
      rw [Day.ne_str hvv]
      rfl
  · have herr : errL (a ++ [(1, 0, s)]) ≠ 0 := fun h0 => by
      have := (errL_zero _).1 h0 (1, 0, s) (List.mem_append_right _ (List.mem_singleton_self _))
      rw [cn1_name, if_neg h1] at this
      exact h1 this
    refine ⟨_, _, canL_err rfl herr, ?_⟩
    rw [h2, Day.ne_str hv.2.2]
    simpa using herr
abbrev d1S : ByteArray := ⟨#[50, 48, 48, 49, 45, 48, 49, 45, 48, 49]⟩
abbrev d2S : ByteArray := ⟨#[50, 48, 48, 49, 45, 48, 49, 45, 48, 50]⟩
theorem day1 : cn1 (5, 0, d1S) = ((5, 0, d1S), 0) := by decide +kernel
theorem day2 : cn1 (5, 0, d2S) = ((5, 0, d2S), 0) := by decide +kernel
theorem card_days {a : List F3} (h : IsCard a) (hl : a.length < 11) : canL (a ++ [(5, 0, d1S), (5, 0, d2S)]) = ([], 1) := by
  obtain ⟨e1, e2⟩ := cnn_all h.cnn
  have herr : errL (a ++ [(5, 0, d1S), (5, 0, d2S)]) = 0 := (errL_zero _).2 fun f hf => by
    rcases List.mem_append.1 hf with hf | hf
    · rw [(h.cnn f hf).2.1]
    · simp only [List.mem_cons, List.not_mem_nil, or_false] at hf
      rcases hf with rfl | rfl
      · rw [day1]
      · rw [day2]
  have hcn : cnA (a ++ [(5, 0, d1S), (5, 0, d2S)]) = a ++ [(5, 0, d1S), (5, 0, d2S)] := by
    have : cnA (a ++ [(5, 0, d1S), (5, 0, d2S)]) = cnA a ++ [(cn1 (5, 0, d1S)).1, (cn1 (5, 0, d2S)).1] := by unfold cnA; rw [List.map_append]; rfl
    rw [this, e2, day1, day2]
  rw [canL_ok herr, hcn]
  have hlen : (rise (a ++ [(5, 0, d1S), (5, 0, d2S)])).length ≤ 12 := by
    have := rise_length_le (a ++ [(5, 0, d1S), (5, 0, d2S)])
    rw [List.length_append] at this
    simp only [List.length_cons, List.length_nil] at this
    omega
  have h2c : 2 ≤ cnt 5 (rise (a ++ [(5, 0, d1S), (5, 0, d2S)])) := cnt_two (x := (5, 0, d1S)) (y := (5, 0, d2S)) ((rise_mem _ _).2 (List.mem_append_right _ (by simp))) ((rise_mem _ _).2 (List.mem_append_right _ (by simp))) rfl rfl (by decide)
  unfold canO
  rw [if_neg (by omega), if_pos (.inr (.inr (by omega)))]
end Go.Proofs.YtlcchkpjcekinaaGreatDoor
/- Lines of a contact: the document's own Less. -/
namespace Go.Proofs.YtlcchkpjcekinaaGreatDoor
open Go.RowKit
open Go.Lib
set_option linter.unusedVariables false
set_option maxRecDepth 20000
attribute [local go_sem ↓] Go.wp_at_zero Go.wp_at_succ
set_option maxHeartbeats 2000000 in
theorem frless_any (k l : Int) (v : ByteArray) (k2 l2 : Int) (v2 : ByteArray) (w : World) : Calls Tryz.prog 67 #[fieldV k l v, fieldV k2 l2 v2] w fun e w' => e = .returned (.bool (lessF k l v k2 l2 v2)) ∧ Below w.heap.size w w' := by
  obtain ⟨r, hr⟩ : ∃ r, lessF k l v k2 l2 v2 = r := ⟨_, rfl⟩
  rw [hr]
  have HR := Lib.hid (show r = if k = k2 then (if l = l2 then Op.bytesLess v.toList v2.toList else decide (l < l2)) else decide (k < k2) by rw [← hr]; rfl)
  clear hr
  by_cases h : k = k2
  · have d : (k != k2) = false := by simpa using h
    by_cases g : l = l2
    · have d2 : (l != l2) = false := by simpa using g
      have H0 := Lib.hid (show r = Op.bytesLess v.toList v2.toList by rw [HR.out, if_pos h, if_pos g])
      go_enter Tryz.func67, Tryz.ntmps67
      go_wp2
      go_ret
      exact ⟨by rw [H0.out]; rfl, two_boxes _ _ _ _⟩
    · have d2 : (l != l2) = true := by simpa using g
      have H0 := Lib.hid (show r = decide (l < l2) by rw [HR.out, if_pos h, if_neg g])
      go_enter Tryz.func67, Tryz.ntmps67
      go_wp2
      go_ret
      exact ⟨by rw [H0.out]; rfl, two_boxes _ _ _ _⟩
  · have d : (k != k2) = true := by simpa using h
    have H0 := Lib.hid (show r = decide (k < k2) by rw [HR.out, if_neg h])
    go_enter Tryz.func67, Tryz.ntmps67
    go_wp2
    go_ret
    exact ⟨by rw [H0.out]; rfl, two_boxes _ _ _ _⟩
end Go.Proofs.YtlcchkpjcekinaaGreatDoor
namespace Go.Proofs.YtlcchkpjcekinaaGreatDoor
open Go.RowKit Go.Lib
set_option linter.unusedVariables false
def rcG : Nat → List UInt8 → Nat
  | 0, _ => 0
  | f + 1, l => if l = [] then 0 else 1 + rcG f (l.drop (decodeL l).2)
theorem rc_list (s : ByteArray) : ∀ fuel pos, runeCountFrom s fuel pos = rcG fuel (s.data.toList.drop pos)
  | 0, _ => rfl
  | f + 1, pos => by
    have ih := rc_list s f (pos + (Utf8.decode s pos).2)
    unfold runeCountFrom rcG
    by_cases h : pos < s.size
    · rw [if_pos h, if_neg (fun e => by have := congrArg List.length e; simp at this; omega), ih, decodeL_drop, List.drop_drop]
    · rw [if_neg h, if_pos (List.drop_of_length_le (by simp; omega))]
theorem rcG_nil : ∀ n, rcG n [] = 0
  | 0 => rfl
  | _ + 1 => by simp [rcG]
theorem rcG_fuel : ∀ (n m : Nat) (l : List UInt8), l.length ≤ n → l.length ≤ m → rcG n l = rcG m l
  | 0, m, l, hn, _ => by
    obtain rfl : l = [] := List.eq_nil_of_length_eq_zero (by omega)
    rw [rcG_nil, rcG_nil]
  | n + 1, 0, l, _, hm => by
    obtain rfl : l = [] := List.eq_nil_of_length_eq_zero (by omega)
    rw [rcG_nil, rcG_nil]
  | n + 1, m + 1, l, hn, hm => by
    unfold rcG
    by_cases hne : l = []
    · rw [if_pos hne, if_pos hne]
    · have hw := decodeL_width l
      have hl : 0 < l.length := List.length_pos_iff.2 hne
      rw [if_neg hne, if_neg hne, rcG_fuel n m _ (by simp; omega) (by simp; omega)]
def rcL (l : List UInt8) : Nat := rcG l.length l
theorem runeCount_rcL (s : ByteArray) : runeCount s = rcL s.data.toList := by
  unfold runeCount rcL
  rw [rc_list, List.drop_zero]
  simp
theorem rcL_nil : rcL [] = 0 := rfl
theorem rcL_step (l : List UInt8) (hne : l ≠ []) : rcL l = 1 + rcL (l.drop (decodeL l).2) := by
  have hw := decodeL_width l
  have hl : 0 < l.length := List.length_pos_iff.2 hne
  obtain ⟨n, hn⟩ : ∃ n, l.length = n + 1 := ⟨l.length - 1, by omega⟩
  have e : rcL l = rcG (n + 1) l := by unfold rcL; rw [hn]
  rw [e]
  unfold rcG rcL
  rw [if_neg hne, rcG_fuel n (l.drop (decodeL l).2).length _ (by simp; omega) (Nat.le_refl _)]
theorem rcL_cons (c : UInt8) (t : List UInt8) (h : c.toNat < 128) : rcL (c :: t) = 1 + rcL t := by
  rw [rcL_step _ (by simp), decodeL_ascii c t h]; rfl
set_option maxHeartbeats 2000000 in
theorem lead_run2 (l : List UInt8) (hne : l ≠ []) (h0 : 128 ≤ (l.getD 0 0).toNat) (hv : validD l = true) :
    ∃ k, 2 ≤ k ∧ k ≤ l.length ∧ validD (l.drop k) = true ∧ (∀ j, j < k → 128 ≤ (l.getD j 0).toNat ∧ (0 < j → (l.getD j 0).toNat ≤ 191)) ∧ ∀ m : List UInt8, k ≤ m.length → (∀ j, j < k → m.getD j 0 = l.getD j 0) → validD m = validD (m.drop k) ∧ (decodeL m).2 = k := by
  rw [validD_lead l hne h0] at hv
  have fin : ∀ sz lo hi, firstT (l.getD 0 0).toNat % 8 = sz → accLo (firstT (l.getD 0 0).toNat / 16) = lo → accHi (firstT (l.getD 0 0).toNat / 16) = hi → (sz = 2 ∨ sz = 3 ∨ sz = 4 → 128 ≤ lo ∧ hi ≤ 191) → (sz = 2 ∨ sz = 3 ∨ sz = 4 ∨ (sz ≠ 2 ∧ sz ≠ 3 ∧ sz ≠ 4)) →
      ∃ k, 2 ≤ k ∧ k ≤ l.length ∧ validD (l.drop k) = true ∧ (∀ j, j < k → 128 ≤ (l.getD j 0).toNat ∧ (0 < j → (l.getD j 0).toNat ≤ 191)) ∧ ∀ m : List UInt8, k ≤ m.length → (∀ j, j < k → m.getD j 0 = l.getD j 0) → validD m = validD (m.drop k) ∧ (decodeL m).2 = k := by
    intro sz lo hi e1 e2 e3 hlo hsz
    rw [e1, e2, e3] at hv
    have hm : ∀ (k : Nat) (m : List UInt8), 2 ≤ k → k ≤ m.length → (∀ j, j < k → m.getD j 0 = l.getD j 0) → checkN m.length (m.getD 1 0).toNat (m.getD 2 0).toNat (m.getD 3 0).toNat sz lo hi = some k → validD m = validD (m.drop k) ∧ (decodeL m).2 = k := by
      intro k m h2 hk he hc
      have h00 := he 0 (by omega)
      refine ⟨by rw [validD_lead m (by rintro rfl; simp at hk; omega) (by rw [h00]; exact h0), h00, e1, e2, e3, hc], ?_⟩
      rw [decodeL_N]
      rcases check_decode m.length (m.getD 0 0).toNat (m.getD 1 0).toNat (m.getD 2 0).toNat (m.getD 3 0).toNat (by omega) (by rw [h00]; exact h0) (m.getD 0 0).toNat_lt (m.getD 1 0).toNat_lt (m.getD 2 0).toNat_lt (m.getD 3 0).toNat_lt with ⟨hc', _⟩ | ⟨k', _, hc', hd⟩
      · rw [h00, e1, e2, e3, hc] at hc'; cases hc'
      · rw [h00, e1, e2, e3, hc] at hc'
        rw [hd]; exact (Option.some.inj hc').symm
    rcases hsz with rfl | rfl | rfl | ⟨n2, n3, n4⟩
    · have hlo := hlo (by decide)
      unfold checkN at hv hm
      simp only [if_true] at hv hm
      split at hv
      next h => split at h <;> simp_all
      next k h =>
        split at h
        · cases h
        · obtain rfl := Option.some.inj h
          refine ⟨2, by omega, by omega, hv, fun j hj => ?_, fun m hk he => hm 2 m (by omega) hk he ?_⟩
          · match j, hj with
            | 0, _ => exact ⟨h0, fun h => absurd h (by omega)⟩
            | 1, _ => omega
          · rw [he 1 (by omega), if_neg (by omega)]
    · have hlo := hlo (by decide)
      unfold checkN at hv hm
      simp only [if_true, show ¬ (3 = 2) by decide, if_false] at hv hm
      split at hv
      next h => split at h <;> simp_all
      next k h =>
        split at h
        · cases h
        · obtain rfl := Option.some.inj h
          refine ⟨3, by omega, by omega, hv, fun j hj => ?_, fun m hk he => hm 3 m (by omega) hk he ?_⟩
          · match j, hj with
            | 0, _ => exact ⟨h0, fun h => absurd h (by omega)⟩
            | 1, _ => omega
            | 2, _ => omega
          · rw [he 1 (by omega), he 2 (by omega), if_neg (by omega)]
    · have hlo := hlo (by decide)
      unfold checkN at hv hm
      simp only [if_true, show ¬ (4 = 2) by decide, show ¬ (4 = 3) by decide, if_false] at hv hm
      split at hv
      next h => split at h <;> simp_all
      next k h =>
        split at h
        · cases h
        · obtain rfl := Option.some.inj h
          refine ⟨4, by omega, by omega, hv, fun j hj => ?_, fun m hk he => hm 4 m (by omega) hk he ?_⟩
          · match j, hj with
            | 0, _ => exact ⟨h0, fun h => absurd h (by omega)⟩
            | 1, _ => omega
            | 2, _ => omega
            | 3, _ => omega
          · rw [he 1 (by omega), he 2 (by omega), he 3 (by omega), if_neg (by omega)]
    · unfold checkN at hv
      rw [if_neg n2, if_neg n3, if_neg n4] at hv
      cases hv
  refine fin _ _ _ rfl rfl rfl ?_ (by omega)
  rcases firstT_cases (l.getD 0 0).toNat with h | h | h | h | h | h | h | h | h <;> rw [h] <;> decide
theorem lead_app (l : List UInt8) (k : Nat) (hk : k ≤ l.length) (h : ∀ m : List UInt8, k ≤ m.length → (∀ j, j < k → m.getD j 0 = l.getD j 0) → validD m = validD (m.drop k) ∧ (decodeL m).2 = k) (r : List UInt8) : (decodeL (l.take k ++ r)).2 = k := by
  have hl : (l.take k).length = k := by simp; omega
  exact (h (l.take k ++ r) (by simp; omega) (fun j hj => by
    simp only [List.getD_eq_getElem?_getD]
    rw [List.getElem?_append_left (by omega), List.getElem?_take, if_pos hj])).2
/-- A valid text and whatever stands behind it: as many signs as both. -/
theorem rcL_app : ∀ (n : Nat) (l r : List UInt8), l.length ≤ n → validD l = true → rcL (l ++ r) = rcL l + rcL r
  | _, [], r, _, _ => by rw [List.nil_append, rcL_nil]; omega
  | 0, _ :: _, _, h, _ => by simp at h
  | n + 1, c :: t, r, h, hv => by
    by_cases hc : c.toNat < 128
    · rw [validD_cons c t hc] at hv
      rw [List.cons_append, rcL_cons _ _ hc, rcL_cons _ _ hc, rcL_app n t r (by simp at h; omega) hv]; omega
    · obtain ⟨k, h2, hk, hd, _, hm⟩ := lead_run2 (c :: t) (by simp) (by simp; omega) hv
      have e1 : c :: t = (c :: t).take k ++ (c :: t).drop k := (List.take_append_drop _ _).symm
      have w1 : (decodeL (c :: t)).2 = k := by have := lead_app _ k hk hm ((c :: t).drop k); rwa [← e1] at this
      have e2 : (c :: t) ++ r = (c :: t).take k ++ ((c :: t).drop k ++ r) := by rw [← List.append_assoc, ← e1]
      have w2 : (decodeL ((c :: t) ++ r)).2 = k := by rw [e2]; exact lead_app _ k hk hm _
      have d2 : ((c :: t) ++ r).drop k = (c :: t).drop k ++ r := List.drop_append_of_le_length hk
      rw [rcL_step ((c :: t) ++ r) (by simp), w2, d2, rcL_step (c :: t) (by simp), w1, rcL_app n _ r (by simp at h ⊢; omega) hd]
      omega
end Go.Proofs.YtlcchkpjcekinaaGreatDoor
