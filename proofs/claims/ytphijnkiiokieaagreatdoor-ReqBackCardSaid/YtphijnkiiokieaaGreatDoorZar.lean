/- Requests: which parts are used; names, forms, ranges. -/
import Derived.Test.YtphijnkiiokieaaGreatDoorZaq
import Derived.Test.YtphijnkiiokieaaGreatDoorZaa
import Derived.Maps.AppendAt
import Derived.Lib.IndexBytes
import Derived.Test.YtphijnkiiokieaaGreatDoorZaf
import Derived.Test.YtphijnkiiokieaaGreatDoorZag
import Derived.BigQuiet
/- card: the contracts wherever the walk stands; rows and pieces of fields; what a card is. -/
namespace Go.Proofs.YtphijnkiiokieaaGreatDoor
open Go.RowKit
open Go.Lib hiding intOf
open Go.Sort Go.Proofs
set_option linter.unusedVariables false
set_option linter.unusedSimpArgs false
set_option maxRecDepth 100000
theorem errL_zero : ∀ L : List F3, errL L = 0 ↔ ∀ f ∈ L, (cn1 f).2 = 0
  | [] => by simp [errL]
  | f :: L => by
    unfold errL
    by_cases h : (cn1 f).2 = 0
    · rw [if_pos h, errL_zero L]
      simp [h]
    · rw [if_neg h]
      simp [h]
theorem canL_same {L M : List F3} (h : ∀ x, x ∈ L ↔ x ∈ M) : (errL L = 0 ∧ errL M = 0 ∧ canL L = canL M) ∨ (errL L ≠ 0 ∧ errL M ≠ 0) := by
  by_cases h0 : errL L = 0
  · have h1 : errL M = 0 := (errL_zero M).2 fun f hf => (errL_zero L).1 h0 f ((h f).2 hf)
    refine .inl ⟨h0, h1, ?_⟩
    rw [canL_ok h0, canL_ok h1]
    congr 1
    refine rise_of (rise_str _) fun x => ?_
    rw [rise_mem]
    unfold cnA
    simp only [List.mem_map]
    exact ⟨fun ⟨f, hf, e⟩ => ⟨f, (h f).2 hf, e⟩, fun ⟨f, hf, e⟩ => ⟨f, (h f).1 hf, e⟩⟩
  · exact .inr ⟨h0, fun h1 => h0 ((errL_zero L).2 fun f hf => (errL_zero M).1 h1 f ((h f).1 hf))⟩
theorem txtL_same {L M : List F3} (h : ∀ x, x ∈ L ↔ x ∈ M) : (txtL L).1 = (txtL M).1 ∧ ((txtL L).2 == 0) = ((txtL M).2 == 0) := by
  rcases canL_same h with ⟨_, _, e⟩ | ⟨h1, h2⟩
  · unfold txtL; rw [e]; exact ⟨rfl, rfl⟩
  · have e1 := canL_err rfl h1
    have e2 := canL_err rfl h2
    unfold txtL
    rw [e1, e2]
    simp [h1, h2, beq_eq_false_iff_ne.2 h1, beq_eq_false_iff_ne.2 h2]
/-- A slice of fields appended onto a row of fields. -/
theorem fr3_app {P : Program} {ops : Array Oper} {rest : List Oper} {o : Oper} {a : Act} {Q : Exit → Act → World → Prop} (w : World) (hgd : o.guard = none) (s x : Operand) (t : TypeId)
    (ho : o.op = .call { callee := .builtin .append, args := #[s, x], argTypes := #[t, t] }) (ht : P.underlying t = some (.slice 92)) (hinf : (P.info? 92).map (fun i => (i.zero, i.size, i.bytes)) = some (some (.agg #[.int .i64 0, .int .i64 0, .string ⟨#[]⟩]), 3, 32))
    (B : Nat) (V : Value) (n : Nat) (L : List F3) (hs : a.eval s = V) (h : Fr3 w B V n L) (ad : Addr) (m c : Nat) (M : List F3) (hm : M.length = m) (hx : a.eval x = .slice (some ad) m c) (hM : ∀ j u, (encL M)[j]? = some u → w.cell? (ad.add j) = some u) (hn : n + m ≤ 1000000) (hB : B ≤ w.heap.size)
    (hK : ∀ V' w', Fr3 w' B V' (n + m) (L ++ M) → w.grownBy w' V.ownBlock → wpList P ops Q rest (a.put o.dst V') w') : wpList P ops Q (o :: rest) a w := by
  obtain ⟨i, hi, hz, hsz, hby⟩ := info_of hinf
  have hl : ∀ M : List F3, (encL M).length = M.length * 3 := fun M => by
    induction M with
    | nil => rfl
    | cons f M ih =>
      have e : encL (f :: M) = encF f ++ encL M := by unfold encL; simp
      rw [e, List.length_append, ih, List.length_cons]
      show 3 + _ = _
      omega
  refine wpList_append_own_at (w := w) hgd s x t ho B 92 i _ 3 32 ht hi hz hsz hby rfl (by decide) V n (encL L) hs h ad m c (encL M) hx (by rw [hl, hm]) hM ?c2 ?c3 ?c4 hB ?_
  case c2 =>
    intro y hy
    unfold encL at hy
    rw [List.mem_flatten] at hy
    obtain ⟨l, h1, h2⟩ := hy
    rw [List.mem_map] at h1
    obtain ⟨f, _, rfl⟩ := h1
    unfold encF at h2
    simp at h2
    rcases h2 with rfl | rfl | rfl <;> rfl
  case c3 => unfold maxLen; omega
  case c4 => omega
  intro v' w' h1 h2 _ _
  refine hK v' w' ?_ h2
  unfold Fr3
  have e : encL (L ++ M) = encL L ++ encL M := by unfold encL; simp
  rw [e]
  exact h1
theorem encL_append (L M : List F3) : encL (L ++ M) = encL L ++ encL M := by unfold encL; simp
/-- The cells of a piece of a slice of fields. -/
theorem fv_cells {w : World} {A : Option Addr} {cap b off : Nat} {L : List F3} (h : Fv w A cap b off L) (k : Nat) (j : Nat) (u : Value) (hj : (encL (L.drop k))[j]? = some u) : w.cell? ((⟨b, off + k * 3, none⟩ : Addr).add j) = some u := by
  rw [encL_get, List.getElem?_drop] at hj
  cases hf : L[k + j / 3]? with
  | none => rw [hf] at hj; cases hj
  | some f =>
    rw [hf] at hj
    simp only at hj
    obtain ⟨_, _, c0, c1, c2⟩ := h.2 _ f hf
    have h3 : j % 3 < 3 := Nat.mod_lt _ (by decide)
    have e : (⟨b, off + k * 3, none⟩ : Addr).add j = ⟨b, off + (k + j / 3) * 3 + j % 3, none⟩ := by
      rw [add_plain]
      congr 1
      omega
    rw [e]
    match j % 3, h3, hj with
    | 0, _, hj => cases hj; exact c0
    | 1, _, hj => cases hj; exact c1
    | 2, _, hj => cases hj; exact c2
theorem cells_take {w : World} {ad : Addr} {L : List F3} (k : Nat) (h : ∀ j u, (encL L)[j]? = some u → w.cell? (ad.add j) = some u) : ∀ j u, (encL (L.take k))[j]? = some u → w.cell? (ad.add j) = some u := fun j u hj => by
  refine h j u ?_
  have e : encL L = encL (L.take k) ++ encL (L.drop k) := by rw [← encL_append, List.take_append_drop]
  rw [e, List.getElem?_append_left (List.getElem?_eq_some_iff.1 hj).1]
  exact hj
theorem order_mem {L : List F3} {k : Nat} (x : F3) : x ∈ L ↔ x ∈ L.drop k ++ L.take k := by
  have e : L = L.take k ++ L.drop k := (List.take_append_drop k L).symm
  constructor
  · intro h
    rw [e] at h
    rcases List.mem_append.1 h with h | h
    · exact List.mem_append_right _ h
    · exact List.mem_append_left _ h
  · intro h
    rw [e]
    rcases List.mem_append.1 h with h | h
    · exact List.mem_append_right _ h
    · exact List.mem_append_left _ h
theorem cn1_ok {f : F3} (h : (cn1 f).2 = 0) : mayF (cn1 f).1.1 (cn1 f).1.2.1 (cn1 f).1.2.2 = true ∧ cn1 (cn1 f).1 = ((cn1 f).1, 0) ∧ (cn1 f).1.1 = f.1 ∧ (valueS (cn1 f).1.1 (cn1 f).1.2.2).2 = 0 := by
  obtain ⟨k, l, v⟩ := f
  unfold cn1 at h ⊢
  simp only at h ⊢
  by_cases h1 : (kindW k).toList.isEmpty = true ∨ labelledB k l = false
  · rw [if_pos h1] at h
    exact absurd h (by decide)
  · rw [if_neg h1] at h ⊢
    by_cases h2 : (valueS k v).2 = 0
    · rw [if_pos h2] at h ⊢
      have hv := value_self k v h2
      simp only
      refine ⟨?_, by rw [if_neg h1, hv, if_pos rfl], trivial, by rw [hv]⟩
      have h3 : (kindW k).toList.isEmpty = false := by
        cases hh : (kindW k).toList.isEmpty with
        | true => exact absurd (.inl hh) h1
        | false => rfl
      have h4 : labelledB k l = true := by
        cases hh : labelledB k l with
        | false => exact absurd (.inr hh) h1
        | true => rfl
      unfold mayF
      rw [h3, h4, hv]
      simp
    · rw [if_neg h2] at h
      exact absurd h h2
/-- What a canonical field is like. -/
def Cnn (f : F3) : Prop := mayF f.1 f.2.1 f.2.2 = true ∧ cn1 f = (f, 0) ∧ (valueS f.1 f.2.2).2 = 0
theorem cnn_of {f : F3} (h : (cn1 f).2 = 0) : Cnn (cn1 f).1 := ⟨(cn1_ok h).1, (cn1_ok h).2.1, (cn1_ok h).2.2.2⟩
theorem cnn_rise {L : List F3} (h : errL L = 0) : ∀ f ∈ rise (cnA L), Cnn f := fun f hf => by
  rw [rise_mem] at hf
  obtain ⟨x, hx, rfl⟩ := List.mem_map.1 hf
  exact cnn_of ((errL_zero L).1 h x hx)
theorem cnn_all {L : List F3} (h : ∀ f ∈ L, Cnn f) : errL L = 0 ∧ cnA L = L := by
  refine ⟨(errL_zero L).2 fun f hf => by rw [(h f hf).2.1], ?_⟩
  unfold cnA
  conv => rhs; rw [← List.map_id L]
  exact List.map_congr_left fun f hf => by rw [(h f hf).2.1]; rfl
/-- A card. -/
structure IsCard (a : List F3) : Prop where
  cnn : ∀ f ∈ a, Cnn f
  str : Str a
  can : canO a = (a, 0)
theorem card_of {L : List F3} (h : (canL L).2 = 0) : IsCard (canL L).1 := by
  rcases canL_spec L with ⟨_, h1, h2, _⟩ | ⟨h1, _⟩
  · have e := canL_ok h1
    refine ⟨by rw [h2]; exact cnn_rise h1, by rw [h2]; exact rise_str _, ?_⟩
    rw [h2]
    rcases canO_spec (rise (cnA L)) with ⟨h3, h4, _⟩ | ⟨h3, _⟩
    · exact Prod.ext h4 h3
    · rw [e] at h; exact absurd h h3
  · exact absurd h h1
theorem card_can {a : List F3} (h : IsCard a) : canL a = (a, 0) := by
  obtain ⟨h1, h2⟩ := cnn_all h.cnn
  rw [canL_ok h1, h2, rise_self h.str, h.can]
theorem card_txt {a : List F3} (h : IsCard a) : txtL a = (txt a, 0) := by
  unfold txtL
  rw [card_can h, if_pos rfl]
theorem card_nums {a : List F3} (h : IsCard a) : a.length ≤ 12 ∧ (txt a).size ≤ 900 ∧ cnt 1 a = 1 ∧ cnt 2 a ≤ 1 ∧ cnt 5 a ≤ 1 := by
  rcases canO_spec a with ⟨_, _, h3⟩ | ⟨h1, _⟩
  · exact h3
  · rw [h.can] at h1; exact absurd rfl h1
theorem heads_ten : ∀ k : Fin 7, ∀ l : Fin 4, (10 : UInt8) ∉ (headW (k.val : Int) (l.val : Int)).data.toList := by decide +kernel
theorem head_ten {k l : Int} (h1 : 0 ≤ k) (h2 : k ≤ 6) (h3 : 0 ≤ l) (h4 : l ≤ 3) : (10 : UInt8) ∉ (headW k l).data.toList := by
  have := heads_ten ⟨k.toNat, by omega⟩ ⟨l.toNat, by omega⟩
  simp only at this
  rwa [Int.toNat_of_nonneg h1, Int.toNat_of_nonneg h3] at this
theorem clean_ten {s : ByteArray} (h : (cleanS s).2 = 0) : (10 : UInt8) ∉ s.data.toList := by
  intro h10
  have : s.data.toList.any ctl = true := List.any_eq_true.2 ⟨10, h10, by decide⟩
  unfold cleanS cleanOf at h
  rw [this, Bool.or_true, if_pos rfl] at h
  exact absurd h (by decide)
theorem value_ten {k : Int} {s : ByteArray} (h : (valueS k s).2 = 0) : (10 : UInt8) ∉ s.data.toList := by
  refine clean_ten ?_
  unfold valueS at h
  split at h
  · unfold telS telOf at h
    by_cases h0 : (cleanS s).2 = 0
    · exact h0
    · rw [if_neg h0] at h; exact absurd h h0
  · split at h
    · unfold mailS mailOf at h
      by_cases h0 : (cleanS s).2 = 0
      · exact h0
      · rw [if_neg h0] at h; exact absurd h h0
    · split at h
      · rename_i h5; exact h5.2
      · exact h
theorem line_ten {f : F3} (h : Cnn f) : (10 : UInt8) ∉ (lineF f.1 f.2.1 f.2.2).data.toList := by
  obtain ⟨k, l, v⟩ := f
  obtain ⟨h1, h2, h3⟩ := h
  simp only at h1 h3 ⊢
  obtain ⟨a1, a2, a3, a4⟩ := may_kinds h1
  have h4 := head_ten (by omega : 0 ≤ k) a2 a3 a4
  have h5 := value_ten h3
  unfold lineF
  rw [if_pos h1]
  simp only [ByteArray.data_append, Array.toList_append, List.mem_append]
  rintro ((h | h) | h)
  · exact h4 h
  · exact absurd h (by decide)
  · exact h5 h
theorem size_bs (l : List UInt8) : (⟨l.toArray⟩ : ByteArray).size = l.length := by show l.toArray.size = _; simp
theorem lineOf_cut (x r : List UInt8) (h : (10 : UInt8) ∉ x) : lineOf ⟨(x ++ 10 :: r).toArray⟩ = (⟨(x ++ [10]).toArray⟩, ⟨r.toArray⟩) := by
  have hi : indexByte (x ++ 10 :: r) 10 = (x.length : Int) := by rw [← index_one]; exact index_has x r 10 h
  unfold lineOf
  rw [show (⟨(x ++ 10 :: r).toArray⟩ : ByteArray).data.toList = x ++ 10 :: r from rfl, hi, if_pos (by omega), Int.toNat_natCast, size_bs]
  refine Prod.ext ?_ ?_
  · refine bs_ext ?_
    simp only [ByteArray.data_extract, Array.toList_extract]
    simp
    rw [List.take_append, List.take_of_length_le (by omega), show x.length + 1 - x.length = 1 by omega]
    rfl
  · refine bs_ext ?_
    simp only [ByteArray.data_extract, Array.toList_extract]
    simp
    exact List.take_of_length_le (by omega)
theorem lines_txt : ∀ a : List F3, (∀ f ∈ a, Cnn f) → linesB ⟨((a.map lnB).flatten).toArray⟩ = a.map fun f => ⟨(lnB f).toArray⟩
  | [], _ => linesB_nil rfl
  | f :: a, h => by
    have h10 := line_ten (h f List.mem_cons_self)
    have e : ((f :: a).map lnB).flatten = (lineF f.1 f.2.1 f.2.2).data.toList ++ 10 :: (a.map lnB).flatten := by
      simp [lnB]
    rw [e, linesB_cons (by rw [size_bs, List.length_append, List.length_cons]; omega), lineOf_cut _ _ h10]
    simp only
    rw [lines_txt a (fun g hg => h g (List.mem_cons_of_mem _ hg))]
    rfl
theorem trim_line (x : List UInt8) : trimN ⟨(x ++ [10]).toArray⟩ = ⟨x.toArray⟩ := by
  have e0 : (⟨(x ++ [10]).toArray⟩ : ByteArray).data.toList = x ++ [10] := rfl
  unfold trimN
  rw [e0]
  have hs : hasSuffix (x ++ [10]) [10] = true := by
    unfold hasSuffix
    simp
  unfold Lib.trimSuffix
  rw [if_pos hs]
  simp
theorem line_back {f : F3} (h : Cnn f) : perr ⟨(lnB f).toArray⟩ = 0 ∧ fof ⟨(lnB f).toArray⟩ = f := by
  have e : trimN ⟨(lnB f).toArray⟩ = lineF f.1 f.2.1 f.2.2 := trim_line _
  unfold perr fof
  rw [e, parse_line h.1]
  exact ⟨rfl, rfl⟩
theorem txt_flat (a : List F3) : txt a = ⟨((a.map lnB).flatten).toArray⟩ := by unfold txt lnL; rw [List.take_length]
theorem card_back {a : List F3} (h : IsCard a) : parL (txt a) = (a, 0) := by
  have hl : linesB (txt a) = a.map fun f => ⟨(lnB f).toArray⟩ := by rw [txt_flat]; exact lines_txt a h.cnn
  have hfl : flds (linesB (txt a)) = a := by
    rw [hl]
    unfold flds
    rw [List.map_map]
    conv => rhs; rw [← List.map_id a]
    exact List.map_congr_left fun f hf => (line_back (h.cnn f hf)).2
  have hok : (linesB (txt a)).any (fun x => perr x != 0) = false := by
    rw [hl, Bool.eq_false_iff]
    intro hh
    obtain ⟨x, hx, hp⟩ := List.any_eq_true.1 hh
    obtain ⟨f, hf, rfl⟩ := List.mem_map.1 hx
    rw [(line_back (h.cnn f hf)).1] at hp
    exact absurd hp (by decide)
  unfold parL
  rw [if_neg (by have := (card_nums h).2.1; omega), hok, if_neg (by decide), hfl, card_txt h, if_neg (by simp)]
/-- What Parse answers. -/
theorem parL_cases (s : ByteArray) : ((parL s).2 = 0 ∧ txtL (parL s).1 = (s, 0) ∧ isC s = true) ∨ ((parL s).2 = 1 ∧ (parL s).1 = [] ∧ isC s = false) := by
  unfold isC parL
  split
  · exact .inr ⟨rfl, rfl, rfl⟩
  · split
    · exact .inr ⟨rfl, rfl, rfl⟩
    · split
      · exact .inr ⟨rfl, rfl, rfl⟩
      · rename_i h
        refine .inl ⟨rfl, ?_, rfl⟩
        have h1 : ¬ (txtL (flds (linesB s))).2 ≠ 0 := fun hh => h (.inl hh)
        have h2 : ¬ (txtL (flds (linesB s))).1 ≠ s := fun hh => h (.inr hh)
        exact Prod.ext (Classical.not_not.1 h2) (Classical.not_not.1 h1)
theorem text_on {v : World} {A : Option Addr} {cap b off : Nat} {L : List F3} (n : Nat) (hn : L.length = n) (tv : ByteArray) (te : Int) (ht : txtL L = (tv, te)) (h : Fv v A cap b off L) (h1 : L.length ≤ 1000) (hv : ∀ f ∈ L, f.2.2.size ≤ 1000000) (hE : Env v) :
    Calls Tryz.prog 88 #[.slice A n cap] v fun e w' => e = .returned (.tuple #[.string tv, .int .i64 te]) ∧ Below v.heap.size v w' := by
  have := text_any h h1 hv hE
  rw [ht, hn] at this
  exact this
theorem ccanon_on {v : World} {A : Option Addr} {cap b off : Nat} {L : List F3} (n : Nat) (hn : L.length = n) (rv : List F3) (re : Int) (hc : canL L = (rv, re)) (m : Nat) (hm : rv.length = m) (h : Fv v A cap b off L) (h1 : L.length ≤ 1000) (hv : ∀ f ∈ L, f.2.2.size ≤ 1000000) (hE : Env v) :
    Calls Tryz.prog 101 #[.slice A n cap] v fun e w' => ∃ A' cap' g, e = .returned (.tuple #[.slice A' m cap', .int .i64 re]) ∧ Fv w' A' cap' g 0 rv ∧ Below v.heap.size v w' := by
  have := canon_any h h1 hv hE
  rw [hc, hn] at this
  simp only [hm] at this
  exact this.mono fun e w' ⟨hb, A', cap', g, he, hf⟩ => ⟨A', cap', g, he, hf, hb⟩
theorem cparse_on (s : ByteArray) (hs : s.size ≤ 1000000) (rv : List F3) (re : Int) (hp : parL s = (rv, re)) (m : Nat) (hm : rv.length = m) (v : World) (hE : Env v) :
    Calls Tryz.prog 78 #[.string s] v fun e w' => ∃ A' cap' g, e = .returned (.tuple #[.slice A' m cap', .int .i64 re]) ∧ Fv w' A' cap' g 0 rv ∧ Below v.heap.size v w' := by
  have := parse_any s hs v hE
  rw [hp] at this
  simp only [hm] at this
  exact this.mono fun e w' ⟨hb, A', cap', g, he, hf⟩ => ⟨A', cap', g, he, hf, hb⟩
theorem parL_vals (s : ByteArray) (hs : s.size ≤ 1000000) : ∀ f ∈ (parL s).1, f.2.2.size ≤ 1000000 := fun f hf => by
  unfold parL at hf
  split at hf
  · cases hf
  · split at hf
    · cases hf
    · split at hf
      · cases hf
      · obtain ⟨x, hx, rfl⟩ := List.mem_map.1 hf
        have h1 := fof_size x
        have h2 := lines_mem_size _ _ x hx
        omega
theorem cnt_all (k : Int) (L : List F3) : cnt k L = (L.filter fun f => f.1 == k).length := by unfold cnt cntF; rw [List.take_length]
theorem len_two {α : Type} {x y : α} : ∀ {l : List α}, x ∈ l → y ∈ l → x ≠ y → 2 ≤ l.length
  | [], h, _, _ => by cases h
  | [z], h1, h2, hne => by rw [List.mem_singleton] at h1 h2; exact absurd (h1.trans h2.symm) hne
  | _ :: _ :: _, _, _, _ => by simp
theorem cnt_two {k : Int} {L : List F3} {x y : F3} (h1 : x ∈ L) (h2 : y ∈ L) (hx : x.1 = k) (hy : y.1 = k) (hne : x ≠ y) : 2 ≤ cnt k L := by
  rw [cnt_all]
  exact len_two (List.mem_filter.2 ⟨h1, by simpa using hx⟩) (List.mem_filter.2 ⟨h2, by simpa using hy⟩) hne
theorem label_name {l : Int} (h : labelledB 1 l = true) : l = 0 := by
  unfold labelledB at h
  by_cases h0 : l = 0
  · exact h0
  · exfalso
    simp [h0] at h
/-- A card begins with its name, and has no other one. -/
theorem card_head {a : List F3} (h : IsCard a) : ∃ v rest, a = (1, 0, v) :: rest ∧ Cnn (1, 0, v) ∧ cnt 1 rest = 0 := by
  have h1 := (card_nums h).2.2.1
  rw [cnt_all] at h1
  obtain ⟨f, hf⟩ : ∃ f, f ∈ a.filter fun f => f.1 == 1 := List.exists_mem_of_length_pos (by omega)
  obtain ⟨hf1, hf2⟩ := List.mem_filter.1 hf
  have hf3 : f.1 = 1 := by simpa using hf2
  match a, h, h1, hf1 with
  | g :: rest, h, h1, hf1 =>
    have hg := h.cnn g List.mem_cons_self
    have hgm := may_kinds hg.1
    have hg1 : g.1 = 1 := by
      rcases List.mem_cons.1 hf1 with e | hr
      · rw [← e]; exact hf3
      · have hlt := (List.pairwise_cons.1 h.str).1 f hr
        unfold ltF lessF at hlt
        by_cases he : g.1 = f.1
        · rw [he]; exact hf3
        · rw [if_neg he] at hlt
          have := of_decide_eq_true hlt
          omega
    obtain ⟨g1, g2, g3⟩ := g
    simp only at hg1
    subst hg1
    have hl : g2 = 0 := by
      have hm := hg.1
      simp only at hm
      unfold mayF at hm
      simp only [Bool.and_eq_true] at hm
      exact label_name (by first | exact hm.1.1.2 | exact hm.1.2 | exact hm.2.1.1 | exact hm.1.1.1.2)
    subst hl
    refine ⟨g3, rest, rfl, hg, ?_⟩
    rw [List.filter_cons, if_pos (by rfl), List.length_cons] at h1
    rw [cnt_all]
    omega
theorem card_tail {v : ByteArray} {rest : List F3} (h : IsCard ((1, 0, v) :: rest)) (h0 : cnt 1 rest = 0) : canL rest = ([], 1) := by
  obtain ⟨e1, e2⟩ := cnn_all (L := rest) fun f hf => h.cnn f (List.mem_cons_of_mem _ hf)
  have hs := (List.pairwise_cons.1 h.str).2
  have hn := (card_nums h).1
  rw [List.length_cons] at hn
  rw [canL_ok e1, e2, rise_self hs]
  unfold canO
  rw [if_neg (by omega), if_pos (.inl (by omega))]
theorem clean_out (s : ByteArray) : ((cleanS s).2 = 0 ∧ (cleanS s).1 ≠ ⟨#[]⟩) ∨ ((cleanS s).2 ≠ 0 ∧ (cleanS s).1 = ⟨#[]⟩) := by
  unfold cleanS cleanOf
  split
  · exact .inr ⟨by decide, rfl⟩
  · split
    · exact .inr ⟨by decide, rfl⟩
    · split
      · exact .inr ⟨by decide, rfl⟩
      · rename_i h _; exact .inl ⟨rfl, h⟩
theorem cn1_name (s : ByteArray) : cn1 (1, 0, s) = if (cleanS s).2 = 0 then ((1, 0, (cleanS s).1), 0) else ((0, 0, ⟨#[]⟩), (cleanS s).2) := by
  have hv : valueS 1 s = cleanS s := by unfold valueS; rw [if_neg (by decide), if_neg (by decide), if_neg (by omega)]
  have h1 : ¬ ((kindW 1).toList.isEmpty = true ∨ labelledB 1 0 = false) := by decide +kernel
  unfold cn1
  simp only
  rw [if_neg h1, hv]
theorem cnn_name {v : ByteArray} (h : Cnn (1, 0, v)) : (cleanS v).2 = 0 ∧ (cleanS v).1 = v ∧ v ≠ ⟨#[]⟩ := by
  have := h.2.1
  rw [cn1_name] at this
  split at this
  · rename_i h0
    have e : (cleanS v).1 = v := by have := congrArg (fun p : F3 × Int => p.1.2.2) this; simpa using this
    rcases clean_out v with ⟨_, h2⟩ | ⟨h2, _⟩
    · exact ⟨h0, e, by rw [e] at h2; exact h2⟩
    · exact absurd h0 h2
  · have := congrArg (fun p : F3 × Int => p.1.1) this
    exact absurd this (by simp)
/-- One more name. -/
theorem card_more {v : ByteArray} {rest : List F3} (h : IsCard ((1, 0, v) :: rest)) (hl : ((1, 0, v) :: rest).length < 11) (s : ByteArray) :
    ∃ rv re, canL ((1, 0, v) :: rest ++ [(1, 0, s)]) = (rv, re) ∧ (re != 0) = !(v.toList == (cleanS s).1.toList) := by
  obtain ⟨a, ha⟩ : ∃ a, (1, 0, v) :: rest = a := ⟨_, rfl⟩
  have hv := cnn_name (h.cnn _ List.mem_cons_self)
  have hmem : ((1, 0, v) : F3) ∈ a := ha ▸ List.mem_cons_self
  rw [ha] at h hl ⊢
  rcases clean_out s with ⟨h1, h2⟩ | ⟨h1, h2⟩
  · have hc : cn1 (1, 0, s) = ((1, 0, (cleanS s).1), 0) := by rw [cn1_name, if_pos h1]
    obtain ⟨e1, e2⟩ := cnn_all h.cnn
    have herr : errL (a ++ [(1, 0, s)]) = 0 := (errL_zero _).2 fun f hf => by
      rcases List.mem_append.1 hf with hf | hf
      · rw [(h.cnn f hf).2.1]
      · rw [List.mem_singleton.1 hf, hc]
    have hcn : cnA (a ++ [(1, 0, s)]) = a ++ [(1, 0, (cleanS s).1)] := by
      have : cnA (a ++ [(1, 0, s)]) = cnA a ++ [(cn1 (1, 0, s)).1] := by unfold cnA; rw [List.map_append]; rfl
      rw [this, e2, hc]
    rw [canL_ok herr, hcn]
    by_cases hvv : v = (cleanS s).1
    · rw [← hvv]
      have : rise (a ++ [(1, 0, v)]) = a := rise_of h.str fun x => by
        rw [List.mem_append, List.mem_singleton]
        exact ⟨.inl, fun hx => hx.elim id fun e => e ▸ hmem⟩
      rw [this, h.can]
      exact ⟨_, _, rfl, by simp⟩
    · have hlen : (rise (a ++ [(1, 0, (cleanS s).1)])).length ≤ 11 := by
        have := rise_length_le (a ++ [(1, 0, (cleanS s).1)])
        rw [List.length_append] at this
        simp only [List.length_cons, List.length_nil] at this
        omega
      have h2c : 2 ≤ cnt 1 (rise (a ++ [(1, 0, (cleanS s).1)])) := cnt_two (x := (1, 0, v)) (y := (1, 0, (cleanS s).1)) ((rise_mem _ _).2 (List.mem_append_left _ hmem)) ((rise_mem _ _).2 (List.mem_append_right _ (List.mem_singleton_self _))) rfl rfl (fun e => hvv (congrArg (fun f : F3 => f.2.2) e))
      refine ⟨[], 1, by unfold canO; rw [if_neg (by omega), if_pos (.inl (by omega))], ?_⟩
      rw [Day.ne_str hvv]
      rfl
  · have herr : errL (a ++ [(1, 0, s)]) ≠ 0 := fun h0 => by
      have := (errL_zero _).1 h0 (1, 0, s) (List.mem_append_right _ (List.mem_singleton_self _))
      rw [cn1_name, if_neg h1] at this
      exact h1 this
    refine ⟨_, _, canL_err rfl herr, ?_⟩
    rw [h2, Day.ne_str hv.2.2]
    simpa using herr
abbrev d1S : ByteArray := ⟨#[50, 48, 48, 49, 45, 48, 49, 45, 48, 49]⟩
abbrev d2S : ByteArray := ⟨#[50, 48, 48, 49, 45, 48, 49, 45, 48, 50]⟩
theorem day1 : cn1 (5, 0, d1S) = ((5, 0, d1S), 0) := by decide +kernel
theorem day2 : cn1 (5, 0, d2S) = ((5, 0, d2S), 0) := by decide +kernel
theorem card_days {a : List F3} (h : IsCard a) (hl : a.length < 11) : canL (a ++ [(5, 0, d1S), (5, 0, d2S)]) = ([], 1) := by
  obtain ⟨e1, e2⟩ := cnn_all h.cnn
  have herr : errL (a ++ [(5, 0, d1S), (5, 0, d2S)]) = 0 := (errL_zero _).2 fun f hf => by
    rcases List.mem_append.1 hf with hf | hf
    · rw [(h.cnn f hf).2.1]
    · simp only [List.mem_cons, List.not_mem_nil, or_false] at hf
      rcases hf with rfl | rfl
      · rw [day1]
      · rw [day2]
  have hcn : cnA (a ++ [(5, 0, d1S), (5, 0, d2S)]) = a ++ [(5, 0, d1S), (5, 0, d2S)] := by
    have : cnA (a ++ [(5, 0, d1S), (5, 0, d2S)]) = cnA a ++ [(cn1 (5, 0, d1S)).1, (cn1 (5, 0, d2S)).1] := by unfold cnA; rw [List.map_append]; rfl
    rw [this, e2, day1, day2]
  rw [canL_ok herr, hcn]
  have hlen : (rise (a ++ [(5, 0, d1S), (5, 0, d2S)])).length ≤ 12 := by
    have := rise_length_le (a ++ [(5, 0, d1S), (5, 0, d2S)])
    rw [List.length_append] at this
    simp only [List.length_cons, List.length_nil] at this
    omega
  have h2c : 2 ≤ cnt 5 (rise (a ++ [(5, 0, d1S), (5, 0, d2S)])) := cnt_two (x := (5, 0, d1S)) (y := (5, 0, d2S)) ((rise_mem _ _).2 (List.mem_append_right _ (by simp))) ((rise_mem _ _).2 (List.mem_append_right _ (by simp))) rfl rfl (by decide)
  unfold canO
  rw [if_neg (by omega), if_pos (.inr (.inr (by omega)))]
end Go.Proofs.YtphijnkiiokieaaGreatDoor
/- card.Is, wherever the walk stands. -/
namespace Go.Proofs.YtphijnkiiokieaaGreatDoor
open Go.RowKit
open Go.Lib hiding intOf
open Go.Sort Go.Proofs
set_option linter.unusedVariables false
set_option linter.unusedSimpArgs false
set_option maxRecDepth 100000
theorem cis_any (s : ByteArray) (hs : s.size ≤ 1000000) (w : World) (hE : Env w) : Calls Tryz.prog 65 #[.string s] w fun e w' => e = .returned (.bool (isC s)) ∧ Below w.heap.size w w' := by
  have HP := Lib.hid (parse_any s hs w hE)
  obtain ⟨pv, pe, hp⟩ : ∃ pv pe, parL s = (pv, pe) := ⟨_, _, rfl⟩
  obtain ⟨r, hr⟩ : ∃ r, isC s = r := ⟨_, rfl⟩
  have HR := Lib.hid (show (pe == 0) = r from by rw [← hr]; unfold isC; rw [hp])
  rw [hp] at HP
  rw [hr]
  simp only at HP
  clear hp hr hE
  go_enter Tryz.func65, Tryz.ntmps65
  go_wp2_with fail
  refine HP.out.mono ?_
  rintro e w1 ⟨hb, A, cap, g, rfl, _⟩
  have HB := Lib.hid hb
  clear hb
  cases hh : (pe == 0) with
  | true =>
    have HR2 := Lib.hid (show true = r from hh ▸ HR.out)
    go_wp2
    go_ret
    exact ⟨by rw [← HR2.out]; rfl, HB.out⟩
  | false =>
    have HR2 := Lib.hid (show false = r from hh ▸ HR.out)
    go_wp2
    go_ret
    exact ⟨by rw [← HR2.out]; rfl, HB.out⟩
theorem is_on (s : ByteArray) (hs : s.size ≤ 1000000) (r : Bool) (hr : isC s = r) (w : World) (hE : Env w) : Calls Tryz.prog 65 #[.string s] w fun e w' => e = .returned (.bool r) ∧ Below w.heap.size w w' := by
  have := cis_any s hs w hE
  rw [hr] at this
  exact this
end Go.Proofs.YtphijnkiiokieaaGreatDoor
/- Requests: may they be (maths). -/
namespace Go.Proofs.YtphijnkiiokieaaGreatDoor
open Go.RowKit
open Go.Lib hiding intOf
set_option linter.unusedVariables false
set_option linter.unusedSimpArgs false
set_option maxRecDepth 20000
def nz (s : ByteArray) : Bool := !(s.toList.isEmpty)
def nzC (k v : Int) : Bool := !(k == 0 && v == 0)
def nzI (n : Int) : Bool := n != 0
def nzO (l : List Opn) : Bool := decide (l.length ≠ 0)
/-- A field that its kind doesn't have, and that is not zero. -/
def extraB (q : Rq) : Bool := !hT q.k && nz q.t || !hC q.k && nz q.co || !hU q.k && nz q.u || !hK q.k && nz q.c || !hN q.k && nzC q.ck q.cv || !hO q.k && nzO q.ops || !hW q.k && nzI q.tok || !hM q.k && nzI q.mo || !hI q.k && nzI q.ti
def okD (o : Opn) : Bool := !(o.d && nz o.c)
def okU (o : Opn) : Bool := Id.uidB o.u.data.toList
def okF (o : Opn) : Bool := (o.d || isC o.c) && Et.mayB o.k o.v
def headN (q : Rq) : Bool := (!hT q.k || Id.nameB q.t.data.toList) && (!hC q.k || Id.nameB q.co.data.toList) && (!hU q.k || Id.uidB q.u.data.toList)
def headF (q : Rq) : Bool := (!hK q.k || isC q.c) && Et.mayB q.ck q.cv
def rangQ (q : Rq) : Bool := (!hO q.k || decide (1 ≤ q.ops.length) && decide (q.ops.length ≤ 8)) && (!hM q.k || decide (1 ≤ q.mo) && decide (q.mo ≤ 1000)) && decide (0 ≤ q.tok) && decide (0 ≤ q.ti) && decide (q.ti ≤ 1048576)
def kindB (k : Int) : Bool := decide (1 ≤ k) && decide (k ≤ 11)
def checkQ (q : Rq) : Int :=
  if kindB q.k = false then 12 else if (extraB q || !q.ops.all okD) = true then 1 else if (headN q && q.ops.all okU) = false then 3
  else if (headF q && q.ops.all okF) = false then 1 else if rangQ q = false then 12 else 0
theorem nz_false {s : ByteArray} (h : nz s = false) : s = bE := by
  unfold nz at h
  have h1 : s.toList.isEmpty = true := by simpa using h
  have h2 : s.toList = [] := List.isEmpty_iff.1 h1
  rw [ByteArray.toList_eq] at h2
  exact ByteArray.ext (Array.toList_inj.1 h2)
theorem isC_size {s : ByteArray} (h : isC s = true) : s.size ≤ 900 := by
  unfold isC parL at h
  split at h
  · cases h
  · rename_i h1
    omega
theorem may_range {k v : Int} (h : Et.mayB k v = true) : 0 ≤ k ∧ k ≤ 3 ∧ 0 ≤ v := by
  unfold Et.mayB at h
  split at h
  · have : v = 0 := by simpa using h
    omega
  · split at h
    · have := of_decide_eq_true h
      omega
    · cases h
theorem uid_size {s : ByteArray} (h : Id.uidB s.data.toList = true) : s.size ≤ 24 := by
  unfold Id.uidB at h
  simp only [Bool.and_eq_true, decide_eq_true_eq] at h
  have := h.1.2
  rw [Array.length_toList] at this
  exact this
theorem name_size {s : ByteArray} (h : Id.nameB s.data.toList = true) : s.size ≤ 16 := by
  unfold Id.nameB at h
  simp only [Bool.and_eq_true, decide_eq_true_eq] at h
  have := h.1.1.1.2
  rw [Array.length_toList] at this
  exact this
/-- Numbers as they can be handed over. -/
structure WfQ (q : Rq) : Prop where
  cv : q.cv < 9223372036854775808
  tok : q.tok < 9223372036854775808
  mo : q.mo < 9223372036854775808
  ti : q.ti < 9223372036854775808
  ck : q.ck < 9223372036854775808
  ops : ∀ o ∈ q.ops, WfO o
theorem check_ok {q : Rq} (h : checkQ q = 0) : kindB q.k = true ∧ extraB q = false ∧ q.ops.all okD = true ∧ headN q = true ∧ q.ops.all okU = true ∧ headF q = true ∧ q.ops.all okF = true ∧ rangQ q = true := by
  unfold checkQ at h
  split at h
  · cases h
  · rename_i h1
    split at h
    · cases h
    · rename_i h2
      split at h
      · cases h
      · rename_i h3
        split at h
        · cases h
        · rename_i h4
          split at h
          · cases h
          · rename_i h5
            simp only [Bool.not_eq_false, Bool.not_eq_true, Bool.or_eq_false_iff, Bool.and_eq_true, Bool.not_eq_false'] at h1 h2 h3 h4 h5
            exact ⟨h1, h2.1, h2.2, h3.1, h3.2, h4.1, h4.2, h5⟩
theorem gdq_of {q : Rq} (h : checkQ q = 0) (w : WfQ q) : GdQ q := by
  obtain ⟨h1, h2, h3, h4, h5, h6, h7, h8⟩ := check_ok h
  unfold extraB at h2
  simp only [Bool.or_eq_false_iff, Bool.and_eq_false_iff, Bool.not_eq_false'] at h2
  obtain ⟨⟨⟨⟨⟨⟨⟨⟨a1, a2⟩, a3⟩, a4⟩, a5⟩, a6⟩, a7⟩, a8⟩, a9⟩ := h2
  unfold headN at h4
  simp only [Bool.and_eq_true, Bool.or_eq_true, Bool.not_eq_true'] at h4
  obtain ⟨⟨b1, b2⟩, b3⟩ := h4
  unfold headF at h6
  simp only [Bool.and_eq_true, Bool.or_eq_true, Bool.not_eq_true'] at h6
  obtain ⟨c1, c2⟩ := h6
  have c3 := may_range c2
  unfold rangQ at h8
  simp only [Bool.and_eq_true, Bool.or_eq_true, Bool.not_eq_true', decide_eq_true_eq] at h8
  obtain ⟨⟨⟨⟨d1, d2⟩, d3⟩, d4⟩, d5⟩ := h8
  rw [List.all_eq_true] at h3 h5 h7
  have zo : hO q.k = false → q.ops = [] := fun e => by
    have : nzO q.ops = false := a6.resolve_left (by rw [e]; decide)
    unfold nzO at this
    simpa using this
  have z1 : ∀ {b : Bool} {n : Int}, (b = true ∨ nzI n = false) → b = false → n = 0 := fun h e => by
    have := h.resolve_left (by rw [e]; decide)
    unfold nzI at this
    simpa using this
  have z2 : ∀ {b : Bool} {s : ByteArray}, (b = true ∨ nz s = false) → b = false → s = bE := fun h e => nz_false (h.resolve_left (by rw [e]; decide))
  have sz : ∀ {b : Bool} {s : ByteArray} {p : Bool}, (b = true ∨ nz s = false) → (b = false ∨ p = true) → (p = true → s.size ≤ 20000) → s.size ≤ 20000 := fun {b s p} h1 h2 h3 => by
    cases b with
    | true => exact h3 (h2.resolve_left (by decide))
    | false => rw [z2 h1 rfl]; exact Nat.zero_le _
  refine ⟨sz a1 b1 (fun h => by have := name_size h; omega), z2 a1, sz a2 b2 (fun h => by have := name_size h; omega), z2 a2, sz a3 b3 (fun h => by have := uid_size h; omega), z2 a3, sz a4 c1 (fun h => by have := isC_size h; omega), z2 a4,
    c3.1, by omega, c3.2.2, w.cv, fun e => ?_, ?_, fun o ho => ?_, zo, d3, w.tok, z1 a7, ?_, ?_, z1 a8, d4, by omega, z1 a9⟩
  · have := a5.resolve_left (by rw [e]; decide)
    unfold nzC at this
    simpa using this
  · cases hh : hO q.k with
    | true => have := d1.resolve_left (by rw [hh]; decide); omega
    | false => rw [zo hh]; exact Nat.zero_le _
  · have g1 := h5 o ho
    have g2 := h7 o ho
    have g3 := h3 o ho
    unfold okU at g1
    unfold okF at g2
    unfold okD at g3
    simp only [Bool.and_eq_true, Bool.or_eq_true] at g2
    have g4 := may_range g2.2
    have gz : o.d = true → o.c = bE := fun e => nz_false (by simpa [e] using g3)
    refine ⟨by have := uid_size g1; omega, ?_, gz, g4.1, by omega, g4.2.2, (w.ops o ho).v⟩
    rcases g2.1 with e | e
    · rw [gz e]; exact Nat.zero_le _
    · have := isC_size e; omega
  · cases hh : hM q.k with
    | true => have := d2.resolve_left (by rw [hh]; decide); omega
    | false => rw [z1 a8 hh]; exact Int.le_refl 0
  · cases hh : hM q.k with
    | true => have := d2.resolve_left (by rw [hh]; decide); omega
    | false => rw [z1 a8 hh]; decide
end Go.Proofs.YtphijnkiiokieaaGreatDoor
/- Requests: what a kind has; which parts are used. -/
namespace Go.Proofs.YtphijnkiiokieaaGreatDoor
open Go.RowKit
open Go.Lib hiding intOf
set_option linter.unusedVariables false
set_option linter.unusedSimpArgs false
set_option maxRecDepth 100000
def partsN (k : Int) : Int := if k = 1 then 1 else if k = 2 ∨ k = 3 then 2 else if k = 4 then 30 else if k = 5 then 22 else if k = 6 then 6 else if k = 7 then 34 else if k = 8 then 194 else if k = 9 then 322 else 0
theorem kinds11 (k : Int) : (k = 1 ∨ k = 2 ∨ k = 3 ∨ k = 4 ∨ k = 5 ∨ k = 6 ∨ k = 7 ∨ k = 8 ∨ k = 9 ∨ k = 10 ∨ k = 11) ∨ (kindB k = false ∧ partsN k = 0 ∧ ∀ n : Fin 12, 1 ≤ n.val → (k == (n.val : Int)) = false) := by
  by_cases h : 1 ≤ k ∧ k ≤ 11
  · left; omega
  · right
    refine ⟨?_, ?_, fun n hn => ?_⟩
    · unfold kindB
      rw [Bool.and_eq_false_iff, decide_eq_false_iff_not, decide_eq_false_iff_not]
      omega
    · unfold partsN
      repeat rw [if_neg (by omega)]
    · have := n.isLt
      simp
      omega
theorem qparts_any (k : Int) (w : World) : Calls Tryz.prog 21 #[.int .i64 k] w fun e w' => e = .returned (.tuple #[.int .i64 (partsN k), .bool (kindB k)]) ∧ w' = w := by
  rcases kinds11 k with (rfl | rfl | rfl | rfl | rfl | rfl | rfl | rfl | rfl | rfl | rfl) | ⟨h1, h2, h3⟩
  iterate 11
    · go_enter Tryz.func21, Tryz.ntmps21
      go_wp2
      go_ret2
      exact ⟨rfl, rfl⟩
  · have e1 := h3 1 (by decide)
    have e2 := h3 2 (by decide)
    have e3 := h3 3 (by decide)
    have e4 := h3 4 (by decide)
    have e5 := h3 5 (by decide)
    have e6 := h3 6 (by decide)
    have e7 := h3 7 (by decide)
    have e8 := h3 8 (by decide)
    have e9 := h3 9 (by decide)
    have e10 := h3 10 (by decide)
    have e11 := h3 11 (by decide)
    rw [h1, h2]
    have e1' : (k == 1) = false := e1
    have e2' : (k == 2) = false := e2
    have e3' : (k == 3) = false := e3
    have e4' : (k == 4) = false := e4
    have e5' : (k == 5) = false := e5
    have e6' : (k == 6) = false := e6
    have e7' : (k == 7) = false := e7
    have e8' : (k == 8) = false := e8
    have e9' : (k == 9) = false := e9
    have e10' : (k == 10) = false := e10
    have e11' : (k == 11) = false := e11
    clear e1 e2 e3 e4 e5 e6 e7 e8 e9 e10 e11 h1 h2 h3
    go_enter Tryz.func21, Tryz.ntmps21
    go_wp2
    go_ret2
    exact ⟨rfl, rfl⟩
def mk1 (n : Int) (b : Bool) (p : Int) : Int := if b = true then bits .or .i64 n p else n
theorem mark1_any {w : World} {g : Nat} {n : Int} (h : Blk w g 3 #[.int .i64 n]) (b : Bool) (p : Int) : Calls Tryz.prog 62 #[.bool b, .int .i64 p, .pointer (some ⟨g, 0, none⟩)] w fun e w' => e = .returned (.tuple #[]) ∧ Blk w' g 3 #[.int .i64 (mk1 n b p)] ∧ w.grownBy w' (some g) := by
  have c0 := h.cell 0
  have f0 := h.frozen 0
  have HB := Lib.hid h
  clear h
  cases b with
  | false =>
    go_enter Tryz.func62, Tryz.ntmps62
    go_wp2
    go_end0
    exact ⟨rfl, HB.out, ⟨rfl, rfl, rfl, Nat.le_refl _, fun _ _ _ => rfl⟩⟩
  | true =>
    go_enter Tryz.func62, Tryz.ntmps62
    go_wp2
    go_end0
    exact ⟨rfl, HB.out.set_ 0 _, only_setCell (p := ⟨g, 0, none⟩) ⟨rfl, rfl, rfl, Nat.le_refl _, fun _ _ _ => rfl⟩ (.inl rfl) _⟩
end Go.Proofs.YtphijnkiiokieaaGreatDoor
namespace Go.Proofs.YtphijnkiiokieaaGreatDoor
open Go.RowKit
open Go.Lib hiding intOf
set_option linter.unusedVariables false
set_option linter.unusedSimpArgs false
set_option maxRecDepth 100000
theorem neC_run (k v k2 v2 : Int) (w : World) : Sem.run Tryz.prog (binOp .neq 23 (.agg #[.int .i64 k, .int .i64 v]) (.agg #[.int .i64 k2, .int .i64 v2])) w = .ok (.bool (!(k == k2 && v == v2))) w := by
  go_simp
  by_cases h1 : k = k2 <;> by_cases h2 : v = v2
  all_goals simp [h1, h2]
structure Us (w0 wr : World) (cs : Array Value) (n : Int) : Prop where
  bx : Blk wr w0.heap.size 26 cs
  nb : Blk wr (w0.heap.size + 1) 3 #[.int .i64 n]
  bel : Below w0.heap.size w0 wr
theorem Us.start (w : World) (cs : Array Value) : Us w ((w.alloc (.cells cs 26)).alloc (.cells #[.int .i64 0] 3)) cs 0 :=
  ⟨(Blk.new w _ _).alloc _, by have := Blk.new (w.alloc (.cells cs 26)) 3 #[.int .i64 0]; rwa [World.size_alloc] at this, ((Below.refl _ _).alloc (Nat.le_refl _) _).alloc (by simp) _⟩
theorem Us.call {w0 wr w' : World} {cs : Array Value} {n n' : Int} (h : Us w0 wr cs n) (hn : Blk w' (w0.heap.size + 1) 3 #[.int .i64 n']) (hg : wr.grownBy w' (some (w0.heap.size + 1))) : Us w0 w' cs n' :=
  ⟨h.bx.grown hg (by simp), hn, ⟨hg.os.trans h.bel.os, hg.tape.trans h.bel.tape, hg.output.trans h.bel.output, Nat.le_trans h.bel.size hg.size, fun j hj => (hg.block j (Nat.lt_of_lt_of_le hj h.bel.size) (by simp; omega)).trans (h.bel.block j hj)⟩⟩
def usedN (b1 b2 b3 b4 b5 b6 b7 b8 b9 : Bool) : Int := mk1 (mk1 (mk1 (mk1 (mk1 (mk1 (mk1 (mk1 (mk1 0 b1 1) b2 2) b3 4) b4 8) b5 16) b6 32) b7 64) b8 128) b9 256
set_option maxHeartbeats 4000000 in
theorem used_any (k : Int) (t co u c : ByteArray) (ck cv : Int) (A : Option Addr) (len cap : Nat) (tok mo ti : Int) (w : World) : Calls Tryz.prog 43 #[.agg #[.int .i64 k, .string t, .string co, .string u, .string c, .int .i64 ck, .int .i64 cv, .slice A len cap, .int .i64 tok, .int .i64 mo, .int .i64 ti]] w fun e w' => e = .returned (.int .i64 (usedN (nz t) (nz co) (nz u) (nz c) (nzC ck cv) (nzI (len : Int)) (nzI tok) (nzI mo) (nzI ti))) ∧ Below w.heap.size w w' := by
  have H0 := Lib.hid (Us.start w #[.int .i64 k, .string t, .string co, .string u, .string c, .int .i64 ck, .int .i64 cv, .slice A len cap, .int .i64 tok, .int .i64 mo, .int .i64 ti])
  have hC : ∀ wq, Sem.run Tryz.prog (binOp .neq 23 (.agg #[.int .i64 ck, .int .i64 cv]) (.agg #[.int .i64 0, .int .i64 0])) wq = .ok (.bool (nzC ck cv)) wq := fun wq => neC_run ck cv 0 0 wq
  obtain ⟨r, hr⟩ : ∃ r, usedN (nz t) (nz co) (nz u) (nz c) (nzC ck cv) (nzI (len : Int)) (nzI tok) (nzI mo) (nzI ti) = r := ⟨_, rfl⟩
  have HR := Lib.hid hr
  rw [hr]
  clear hr
  go_enter Tryz.func43, Tryz.ntmps43
  go_wp2_with fail
  refine (mark1_any H0.out.nb _ _).mono ?_
  rintro _ w1 ⟨rfl, h1, h2⟩
  have H1 := Lib.hid (H0.out.call h1 h2)
  clear h1 h2
  have c1_0 := H1.out.bx.cell 0
  have c1_1 := H1.out.bx.cell 1
  have c1_2 := H1.out.bx.cell 2
  have c1_3 := H1.out.bx.cell 3
  have c1_4 := H1.out.bx.cell 4
  have c1_5 := H1.out.bx.cell 5
  have c1_6 := H1.out.bx.cell 6
  have c1_7 := H1.out.bx.cell 7
  have c1_8 := H1.out.bx.cell 8
  have c1_9 := H1.out.bx.cell 9
  have c1_10 := H1.out.bx.cell 10
  have n1 := H1.out.nb.cell 0
  simp only [List.getElem?_toArray, List.getElem?_cons_zero, List.getElem?_cons_succ] at c1_0 c1_1 c1_2 c1_3 c1_4 c1_5 c1_6 c1_7 c1_8 c1_9 c1_10
  go_wp2_with fail
  refine (mark1_any H1.out.nb _ _).mono ?_
  rintro _ w2 ⟨rfl, h1, h2⟩
  have H2 := Lib.hid (H1.out.call h1 h2)
  clear h1 h2
  have c2_0 := H2.out.bx.cell 0
  have c2_1 := H2.out.bx.cell 1
  have c2_2 := H2.out.bx.cell 2
  have c2_3 := H2.out.bx.cell 3
  have c2_4 := H2.out.bx.cell 4
  have c2_5 := H2.out.bx.cell 5
  have c2_6 := H2.out.bx.cell 6
  have c2_7 := H2.out.bx.cell 7
  have c2_8 := H2.out.bx.cell 8
  have c2_9 := H2.out.bx.cell 9
  have c2_10 := H2.out.bx.cell 10
  have n2 := H2.out.nb.cell 0
  simp only [List.getElem?_toArray, List.getElem?_cons_zero, List.getElem?_cons_succ] at c2_0 c2_1 c2_2 c2_3 c2_4 c2_5 c2_6 c2_7 c2_8 c2_9 c2_10
  go_wp2_with fail
  refine (mark1_any H2.out.nb _ _).mono ?_
  rintro _ w3 ⟨rfl, h1, h2⟩
  have H3 := Lib.hid (H2.out.call h1 h2)
  clear h1 h2
  have c3_0 := H3.out.bx.cell 0
  have c3_1 := H3.out.bx.cell 1
  have c3_2 := H3.out.bx.cell 2
  have c3_3 := H3.out.bx.cell 3
  have c3_4 := H3.out.bx.cell 4
  have c3_5 := H3.out.bx.cell 5
  have c3_6 := H3.out.bx.cell 6
  have c3_7 := H3.out.bx.cell 7
  have c3_8 := H3.out.bx.cell 8
  have c3_9 := H3.out.bx.cell 9
  have c3_10 := H3.out.bx.cell 10
  have n3 := H3.out.nb.cell 0
  simp only [List.getElem?_toArray, List.getElem?_cons_zero, List.getElem?_cons_succ] at c3_0 c3_1 c3_2 c3_3 c3_4 c3_5 c3_6 c3_7 c3_8 c3_9 c3_10
  go_wp2_with fail
  refine (mark1_any H3.out.nb _ _).mono ?_
  rintro _ w4 ⟨rfl, h1, h2⟩
  have H4 := Lib.hid (H3.out.call h1 h2)
  clear h1 h2
  have c4_0 := H4.out.bx.cell 0
  have c4_1 := H4.out.bx.cell 1
  have c4_2 := H4.out.bx.cell 2
  have c4_3 := H4.out.bx.cell 3
  have c4_4 := H4.out.bx.cell 4
  have c4_5 := H4.out.bx.cell 5
  have c4_6 := H4.out.bx.cell 6
  have c4_7 := H4.out.bx.cell 7
  have c4_8 := H4.out.bx.cell 8
  have c4_9 := H4.out.bx.cell 9
  have c4_10 := H4.out.bx.cell 10
  have n4 := H4.out.nb.cell 0
  simp only [List.getElem?_toArray, List.getElem?_cons_zero, List.getElem?_cons_succ] at c4_0 c4_1 c4_2 c4_3 c4_4 c4_5 c4_6 c4_7 c4_8 c4_9 c4_10
  go_wp2_with fail
  refine (mark1_any H4.out.nb _ _).mono ?_
  rintro _ w5 ⟨rfl, h1, h2⟩
  have H5 := Lib.hid (H4.out.call h1 h2)
  clear h1 h2
  have c5_0 := H5.out.bx.cell 0
  have c5_1 := H5.out.bx.cell 1
  have c5_2 := H5.out.bx.cell 2
  have c5_3 := H5.out.bx.cell 3
  have c5_4 := H5.out.bx.cell 4
  have c5_5 := H5.out.bx.cell 5
  have c5_6 := H5.out.bx.cell 6
  have c5_7 := H5.out.bx.cell 7
  have c5_8 := H5.out.bx.cell 8
  have c5_9 := H5.out.bx.cell 9
  have c5_10 := H5.out.bx.cell 10
  have n5 := H5.out.nb.cell 0
  simp only [List.getElem?_toArray, List.getElem?_cons_zero, List.getElem?_cons_succ] at c5_0 c5_1 c5_2 c5_3 c5_4 c5_5 c5_6 c5_7 c5_8 c5_9 c5_10
  go_wp2_with fail
  refine (mark1_any H5.out.nb _ _).mono ?_
  rintro _ w6 ⟨rfl, h1, h2⟩
  have H6 := Lib.hid (H5.out.call h1 h2)
  clear h1 h2
  have c6_0 := H6.out.bx.cell 0
  have c6_1 := H6.out.bx.cell 1
  have c6_2 := H6.out.bx.cell 2
  have c6_3 := H6.out.bx.cell 3
  have c6_4 := H6.out.bx.cell 4
  have c6_5 := H6.out.bx.cell 5
  have c6_6 := H6.out.bx.cell 6
  have c6_7 := H6.out.bx.cell 7
  have c6_8 := H6.out.bx.cell 8
  have c6_9 := H6.out.bx.cell 9
  have c6_10 := H6.out.bx.cell 10
  have n6 := H6.out.nb.cell 0
  simp only [List.getElem?_toArray, List.getElem?_cons_zero, List.getElem?_cons_succ] at c6_0 c6_1 c6_2 c6_3 c6_4 c6_5 c6_6 c6_7 c6_8 c6_9 c6_10
  go_wp2_with fail
  refine (mark1_any H6.out.nb _ _).mono ?_
  rintro _ w7 ⟨rfl, h1, h2⟩
  have H7 := Lib.hid (H6.out.call h1 h2)
  clear h1 h2
  have c7_0 := H7.out.bx.cell 0
  have c7_1 := H7.out.bx.cell 1
  have c7_2 := H7.out.bx.cell 2
  have c7_3 := H7.out.bx.cell 3
  have c7_4 := H7.out.bx.cell 4
  have c7_5 := H7.out.bx.cell 5
  have c7_6 := H7.out.bx.cell 6
  have c7_7 := H7.out.bx.cell 7
  have c7_8 := H7.out.bx.cell 8
  have c7_9 := H7.out.bx.cell 9
  have c7_10 := H7.out.bx.cell 10
  have n7 := H7.out.nb.cell 0
  simp only [List.getElem?_toArray, List.getElem?_cons_zero, List.getElem?_cons_succ] at c7_0 c7_1 c7_2 c7_3 c7_4 c7_5 c7_6 c7_7 c7_8 c7_9 c7_10
  go_wp2_with fail
  refine (mark1_any H7.out.nb _ _).mono ?_
  rintro _ w8 ⟨rfl, h1, h2⟩
  have H8 := Lib.hid (H7.out.call h1 h2)
  clear h1 h2
  have c8_0 := H8.out.bx.cell 0
  have c8_1 := H8.out.bx.cell 1
  have c8_2 := H8.out.bx.cell 2
  have c8_3 := H8.out.bx.cell 3
  have c8_4 := H8.out.bx.cell 4
  have c8_5 := H8.out.bx.cell 5
  have c8_6 := H8.out.bx.cell 6
  have c8_7 := H8.out.bx.cell 7
  have c8_8 := H8.out.bx.cell 8
  have c8_9 := H8.out.bx.cell 9
  have c8_10 := H8.out.bx.cell 10
  have n8 := H8.out.nb.cell 0
  simp only [List.getElem?_toArray, List.getElem?_cons_zero, List.getElem?_cons_succ] at c8_0 c8_1 c8_2 c8_3 c8_4 c8_5 c8_6 c8_7 c8_8 c8_9 c8_10
  go_wp2_with fail
  refine (mark1_any H8.out.nb _ _).mono ?_
  rintro _ w9 ⟨rfl, h1, h2⟩
  have H9 := Lib.hid (H8.out.call h1 h2)
  clear h1 h2
  have c9_0 := H9.out.bx.cell 0
  have c9_1 := H9.out.bx.cell 1
  have c9_2 := H9.out.bx.cell 2
  have c9_3 := H9.out.bx.cell 3
  have c9_4 := H9.out.bx.cell 4
  have c9_5 := H9.out.bx.cell 5
  have c9_6 := H9.out.bx.cell 6
  have c9_7 := H9.out.bx.cell 7
  have c9_8 := H9.out.bx.cell 8
  have c9_9 := H9.out.bx.cell 9
  have c9_10 := H9.out.bx.cell 10
  have n9 := H9.out.nb.cell 0
  simp only [List.getElem?_toArray, List.getElem?_cons_zero, List.getElem?_cons_succ] at c9_0 c9_1 c9_2 c9_3 c9_4 c9_5 c9_6 c9_7 c9_8 c9_9 c9_10
  go_wp2
  go_ret
  exact ⟨by rw [← HR.out]; rfl, H9.out.bel⟩
end Go.Proofs.YtphijnkiiokieaaGreatDoor
