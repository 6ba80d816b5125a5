/- How many signs a text has, by its bytes from the front. -/
import Derived.Test.YthknkglhppngoaaGreatDoorZg
import Derived.Test.YthknkglhppngoaaGreatDoorZc
import Derived.Test.YthknkglhppngoaaGreatDoorZe
import Derived.Test.YthknkglhppngoaaGreatDoorZa
import Derived.Lib.TrimUEq
import Derived.Lib.RuneCount
/- Lines of a contact: what a line is parsed to; canonical twice. -/
namespace Go.Proofs.YthknkglhppngoaaGreatDoor
open Go.RowKit
open Go.Lib hiding intOf
set_option linter.unusedVariables false
set_option maxRecDepth 20000
def pairs : List (Int × Int) := [(1, 0), (1, 1), (1, 2), (1, 3), (2, 0), (2, 1), (2, 2), (2, 3), (3, 0), (3, 1), (3, 2), (3, 3), (4, 0), (4, 1), (4, 2), (4, 3), (5, 0), (5, 1), (5, 2), (5, 3), (6, 0), (6, 1), (6, 2), (6, 3)]
def fits (h v : ByteArray) (k l : Int) : Bool := (h.toList == (headW k l).toList) && mayF k l v
structure Fld where
  k : Int
  l : Int
  v : ByteArray
  e : Int
def noF : Fld := ⟨0, 0, ⟨#[]⟩, 1⟩
def cutH (s : ByteArray) : ByteArray := ⟨(cut s.data.toList [58]).1.toArray⟩
def cutV (s : ByteArray) : ByteArray := ⟨(cut s.data.toList [58]).2.1.toArray⟩
def cutO (s : ByteArray) : Bool := (cut s.data.toList [58]).2.2
def findF (h v : ByteArray) : Fld := match pairs.find? (fun p => fits h v p.1 p.2) with
  | some p => ⟨p.1, p.2, v, 0⟩
  | none => noF
def parseF (s : ByteArray) : Fld := if cutO s = true then findF (cutH s) (cutV s) else noF
theorem in_pairs {k l : Int} (h1 : 1 ≤ k) (h2 : k ≤ 6) (h3 : 0 ≤ l) (h4 : l ≤ 3) : (k, l) ∈ pairs := by
  rcases (show k = 1 ∨ k = 2 ∨ k = 3 ∨ k = 4 ∨ k = 5 ∨ k = 6 by omega) with rfl | rfl | rfl | rfl | rfl | rfl <;> rcases (show l = 0 ∨ l = 1 ∨ l = 2 ∨ l = 3 by omega) with rfl | rfl | rfl | rfl <;> decide
theorem pairs_in : ∀ p ∈ pairs, 1 ≤ p.1 ∧ p.1 ≤ 6 ∧ 0 ≤ p.2 ∧ p.2 ≤ 3 := by decide
theorem fits_head {h v : ByteArray} {k l : Int} (hf : fits h v k l = true) : h = headW k l ∧ mayF k l v = true := by
  unfold fits at hf
  rw [Bool.and_eq_true] at hf
  refine ⟨bs_ext ?_, hf.2⟩
  have := hf.1
  simp only [ByteArray.toList_eq] at this
  exact eq_of_beq this
theorem find_one {h v : ByteArray} {k l : Int} (h1 : 1 ≤ k) (h2 : k ≤ 6) (h3 : 0 ≤ l) (h4 : l ≤ 3) (hf : fits h v k l = true) : findF h v = ⟨k, l, v, 0⟩ := by
  unfold findF
  cases hq : pairs.find? (fun p => fits h v p.1 p.2) with
  | none =>
    have := List.find?_eq_none.1 hq (k, l) (in_pairs h1 h2 h3 h4)
    exact absurd hf this
  | some p =>
    have hp := List.find?_some hq
    obtain ⟨g1, g2, g3, g4⟩ := pairs_in p (List.mem_of_find?_eq_some hq)
    obtain ⟨e1, e2⟩ := head_one h1 h2 h3 h4 g1 g2 g3 g4 ((fits_head hf).1.symm.trans (fits_head hp).1)
    rw [e1, e2]
theorem find_none {h v : ByteArray} (hn : ∀ k l : Int, 1 ≤ k → k ≤ 6 → 0 ≤ l → l ≤ 3 → fits h v k l = false) : findF h v = noF := by
  unfold findF
  have : pairs.find? (fun p => fits h v p.1 p.2) = none := List.find?_eq_none.2 fun p hp => by
    obtain ⟨g1, g2, g3, g4⟩ := pairs_in p hp
    rw [hn _ _ g1 g2 g3 g4]; decide
  rw [this]
theorem find_cases (h v : ByteArray) : (∃ k l, 1 ≤ k ∧ k ≤ 6 ∧ 0 ≤ l ∧ l ≤ 3 ∧ h = headW k l ∧ mayF k l v = true ∧ findF h v = ⟨k, l, v, 0⟩) ∨ findF h v = noF := by
  unfold findF
  cases hq : pairs.find? (fun p => fits h v p.1 p.2) with
  | none => exact .inr rfl
  | some p =>
    have hp := List.find?_some hq
    obtain ⟨g1, g2, g3, g4⟩ := pairs_in p (List.mem_of_find?_eq_some hq)
    obtain ⟨e1, e2⟩ := fits_head hp
    exact .inl ⟨p.1, p.2, g1, g2, g3, g4, e1, e2, rfl⟩
theorem parse_cases (s : ByteArray) : (∃ k l v, mayF k l v = true ∧ lineF k l v = s ∧ parseF s = ⟨k, l, v, 0⟩ ∧ v.size ≤ s.size) ∨ parseF s = noF := by
  unfold parseF
  by_cases hc : (58 : UInt8) ∈ s.data.toList
  · obtain ⟨a, b, e, ha⟩ := first_at _ _ hc
    have hcut := cut_has a b 58 ha
    rw [← e] at hcut
    have h1 : cutO s = true := by unfold cutO; rw [hcut]
    rw [if_pos h1]
    rcases find_cases (cutH s) (cutV s) with ⟨k, l, _, _, _, _, h, hm, hf⟩ | h
    · refine .inl ⟨k, l, cutV s, hm, ?_, hf, ?_⟩
      · unfold lineF
        rw [if_pos hm, ← h]
        apply bs_ext
        rw [app_list, app_list, e]
        unfold cutH cutV
        rw [hcut]
        simp
      · show (cutV s).size ≤ s.size
        unfold cutV
        rw [hcut]
        show b.toArray.size ≤ s.size
        have : s.data.toList.length = s.size := by simp
        rw [e] at this
        simp at this ⊢
        omega
    · exact .inr h
  · have hcut := cut_not s.data.toList 58 hc
    have h1 : cutO s = false := by unfold cutO; rw [hcut]
    rw [h1]
    exact .inr rfl
theorem parse_line {k l : Int} {v : ByteArray} (hm : mayF k l v = true) : parseF (lineF k l v) = ⟨k, l, v, 0⟩ := by
  obtain ⟨h1, h2, h3, h4⟩ := may_kinds hm
  have e : (lineF k l v).data.toList = (headW k l).data.toList ++ 58 :: v.data.toList := by
    unfold lineF; rw [if_pos hm, app_list, app_list]; simp
  have hcut := cut_has (headW k l).data.toList v.data.toList 58 (head_colon (by omega) h2 h3 h4)
  rw [← e] at hcut
  have hh : cutH (lineF k l v) = headW k l := by unfold cutH; rw [hcut]
  have hv : cutV (lineF k l v) = v := by unfold cutV; rw [hcut]
  have ho : cutO (lineF k l v) = true := by unfold cutO; rw [hcut]
  unfold parseF
  rw [if_pos ho, hh, hv]
  refine find_one h1 h2 h3 h4 ?_
  unfold fits
  rw [hm]; simp
end Go.Proofs.YthknkglhppngoaaGreatDoor
/- Texts made clean: clean twice. -/
namespace Go.Proofs.YthknkglhppngoaaGreatDoor
open Go.RowKit
set_option linter.unusedVariables false
theorem cleanOf_ok {v c : Bool} {t : ByteArray} (h : (cleanOf v c t).2 = 0) : v = true ∧ c = false ∧ t ≠ ⟨#[]⟩ ∧ (t.size : Int) ≤ 64 ∧ cleanOf v c t = (t, 0) := by
  unfold cleanOf at h ⊢
  split at h
  · simp at h
  · split at h
    · simp at h
    · split at h
      · simp at h
      · rename_i h1 h2 h3
        rw [if_neg h1, if_neg h2, if_neg h3]
        cases v <;> cases c <;> simp_all
theorem clean_mk (s t : ByteArray) (hv : Lib.validD s.data.toList = true) (hc : s.data.toList.any ctl = false) (hs : sq s.data.toList = t.data.toList) (h0 : t ≠ ⟨#[]⟩) (h1 : (t.size : Int) ≤ 64) : cleanS s = (t, 0) := by
  unfold cleanS
  rw [hv, hc, squeezeS_sq, hs]
  unfold cleanOf
  rw [if_neg (by decide), if_neg h0, if_neg (by show ¬ 64 < (t.size : Int); omega)]
theorem clean_ok (a : ByteArray) (h : (cleanS a).2 = 0) : Lib.validD a.data.toList = true ∧ a.data.toList.any ctl = false ∧ ∃ t : ByteArray, t.data.toList = sq a.data.toList ∧ t ≠ ⟨#[]⟩ ∧ (t.size : Int) ≤ 64 ∧ cleanS a = (t, 0) := by
  have := cleanOf_ok h
  exact ⟨this.1, this.2.1, squeezeS a, by rw [squeezeS_sq], this.2.2.1, this.2.2.2.1, this.2.2.2.2⟩
theorem clean_twice (a t : ByteArray) (hv : Lib.validD a.data.toList = true) (hc : a.data.toList.any ctl = false) (hs : t.data.toList = sq a.data.toList) (h0 : t ≠ ⟨#[]⟩) (h1 : (t.size : Int) ≤ 64) : cleanS t = (t, 0) :=
  clean_mk t t (by rw [hs]; exact (sq_whole _ hv).valid) (by rw [hs]; exact sq_ctl _ hc) (by rw [hs, sq_sq]) h0 h1
theorem clean_self (a : ByteArray) (h : (cleanS a).2 = 0) : cleanS (cleanS a).1 = ((cleanS a).1, 0) := by
  obtain ⟨hv, hc, t, hs, h0, h1, e⟩ := clean_ok a h
  rw [e]
  exact clean_twice a t hv hc hs h0 h1
end Go.Proofs.YthknkglhppngoaaGreatDoor
/- Lines of a contact: canonical twice is canonical; what Canon answers. -/
namespace Go.Proofs.YthknkglhppngoaaGreatDoor
open Go.RowKit
open Go.Lib hiding intOf
set_option linter.unusedVariables false
set_option maxRecDepth 20000
theorem value_self (k : Int) (s : ByteArray) (h : (valueS k s).2 = 0) : valueS k (valueS k s).1 = ((valueS k s).1, 0) := by
  unfold valueS at h ⊢
  by_cases h3 : k = 3
  · rw [if_pos h3] at h ⊢
    rw [if_pos h3]
    rcases tel_cases s with ⟨_, h2⟩ | ⟨h1, _⟩
    · exact tel_self h2
    · exact absurd h h1
  rw [if_neg h3] at h ⊢
  rw [if_neg h3]
  by_cases h4 : k = 4
  · rw [if_pos h4] at h ⊢
    rw [if_pos h4]
    rcases mail_cases s with ⟨_, h2⟩ | ⟨h1, _⟩
    · exact mail_self h2
    · exact absurd h h1
  rw [if_neg h4] at h ⊢
  rw [if_neg h4]
  by_cases h5 : k = 5 ∧ (cleanS s).2 = 0
  · rw [if_pos h5] at h ⊢
    have hc := clean_self s h5.2
    simp only at h ⊢
    rw [hc, if_pos ⟨h5.1, rfl⟩]
    simp only
    rw [h]
  · rw [if_neg h5] at h ⊢
    have hc := clean_self s h
    rw [hc]
    split
    · rename_i h6; exact absurd ⟨h6.1, h⟩ h5
    · rfl
theorem value_size (k : Int) (s : ByteArray) (h : (valueS k s).2 = 0) : (valueS k s).1.size ≤ 64 := by
  unfold valueS at h ⊢
  by_cases h3 : k = 3
  · rw [if_pos h3] at h ⊢
    rcases tel_cases s with ⟨_, h2⟩ | ⟨h1, _⟩
    · have := (tel_plain h2).2
      have e : (telS s).1.data.toList.length = (telS s).1.size := by simp
      omega
    · exact absurd h h1
  rw [if_neg h3] at h ⊢
  by_cases h4 : k = 4
  · rw [if_pos h4] at h ⊢
    rcases mail_cases s with ⟨_, h2⟩ | ⟨h1, _⟩
    · have := (mail_parts _ h2).len
      have e : (mailS s).1.data.toList.length = (mailS s).1.size := by simp
      omega
    · exact absurd h h1
  rw [if_neg h4] at h ⊢
  have hcl : (cleanS s).2 = 0 → (cleanS s).1.size ≤ 64 := fun h => by
    obtain ⟨_, _, t, _, _, h1, e⟩ := clean_ok s h
    rw [e]; show t.size ≤ 64; omega
  by_cases h5 : k = 5 ∧ (cleanS s).2 = 0
  · rw [if_pos h5] at h ⊢
    exact hcl h5.2
  · rw [if_neg h5] at h ⊢
    exact hcl h
theorem may_size {k l : Int} {v : ByteArray} (h : mayF k l v = true) : v.size ≤ 64 := by
  unfold mayF at h
  simp only [Bool.and_eq_true] at h
  obtain ⟨⟨_, h3⟩, h4⟩ := h
  have h5 : (valueS k v).2 = 0 := by simpa using h3
  have h6 : (valueS k v).1 = v := bs_ext (by simp only [ByteArray.toList_eq] at h4; exact eq_of_beq h4)
  have := value_size k v h5
  rwa [h6] at this
/-- What Canon answers, and what that answer is in turn. -/
theorem canon_cases (k l : Int) (v : ByteArray) : (∃ e, e ≠ 0 ∧ canonV k l v = .tuple #[fieldV 0 0 ⟨#[]⟩, .int .i64 e] ∧ mayF k l v = false) ∨ (∃ t, canonV k l v = .tuple #[fieldV k l t, .int .i64 0] ∧ mayF k l v = (t.toList == v.toList) ∧ mayF k l t = true ∧ canonV k l t = .tuple #[fieldV k l t, .int .i64 0] ∧ t.size ≤ 64) := by
  unfold canonV mayF
  cases h1 : (kindW k).toList.isEmpty with
  | true => exact .inl ⟨1, by decide, by rw [if_pos (.inl rfl)], by simp⟩
  | false =>
    cases h2 : labelledB k l with
    | false => exact .inl ⟨1, by decide, by rw [if_pos (.inr rfl)], by simp⟩
    | true =>
      rw [if_neg (by simp)]
      by_cases h3 : (valueS k v).2 = 0
      · have hv := value_self k v h3
        refine .inr ⟨(valueS k v).1, by rw [if_pos h3], by rw [h3]; simp, ?_, ?_, value_size k v h3⟩
        · rw [hv]; simp
        · rw [if_neg (by simp), hv, if_pos rfl]
      · refine .inl ⟨(valueS k v).2, h3, by rw [if_neg h3], ?_⟩
        have : ((valueS k v).2 == 0) = false := by simpa using h3
        rw [this]; simp
/-- Parse's value. -/
def fldV (f : Fld) : Value := .tuple #[fieldV f.k f.l f.v, .int .i64 f.e]
end Go.Proofs.YthknkglhppngoaaGreatDoor
/- Lines of a contact: Parse. -/
namespace Go.Proofs.YthknkglhppngoaaGreatDoor
open Go.RowKit
open Go.Lib hiding intOf
set_option linter.unusedVariables false
set_option maxRecDepth 20000
attribute [local go_sem ↓] Go.wp_at_zero Go.wp_at_succ
theorem parse_out {cs : Array Value} (hc : cs.size = 3) {R : Ending → World → Prop} {a : Act} {w : World} {g : Nat} (h2 : a.tmps.getD 2 undef = .pointer (some ⟨g, 0, none⟩)) (hd : a.defers = []) (hg : Blk w g 23 cs)
    (hR : R (.returned (.tuple #[.agg cs, a.tmps.getD 3 undef])) w) : bodyPost Tryz.prog Tryz.f7 R .ret a w :=
  bodyPost_ret (Day.results_cell1 (fn := Tryz.f7) rfl a.tmps Tryz.prog w g 23 cs (0, 0) _ h2 hg Tryz.underlying23 (by rw [hc]; rfl)) hd hR
def noBefore (h v : ByteArray) (k : Int) : Prop := ∀ a b : Int, 1 ≤ a → a < k → 0 ≤ b → b ≤ 3 → fits h v a b = false
def noIn (h v : ByteArray) (k l : Int) : Prop := ∀ b : Int, 0 ≤ b → b < l → fits h v k b = false
theorem noIn.next {h v : ByteArray} {k l : Int} (a : noIn h v k l) (b : fits h v k l = false) : noIn h v k (l + 1) := fun x h1 h2 => by
  by_cases e : x = l
  · rw [e]; exact b
  · exact a x h1 (by omega)
theorem noBefore.next {h v : ByteArray} {k : Int} (a : noBefore h v k) (b : noIn h v k 4) : noBefore h v (k + 1) := fun x y h1 h2 h3 h4 => by
  by_cases e : x = k
  · rw [e]; exact b y h3 (by omega)
  · exact a x y h1 (by omega) h3 h4
structure Pw (w wr : World) : Prop where
  res : Blk wr w.heap.size 23 #[.int .i64 0, .int .i64 0, .string ⟨#[]⟩]
  bel : Below w.heap.size w wr
theorem Pw.alloc {w wr : World} (h : Pw w wr) (o : Obj) : Pw w (wr.alloc o) := ⟨h.res.alloc o, h.bel.alloc h.bel.size o⟩
theorem Pw.step {w wr w' : World} (h : Pw w wr) (hb : Below wr.heap.size wr w') : Pw w w' := ⟨h.res.below hb h.res.lt, h.bel.trans (hb.mono h.bel.size)⟩
theorem cut_sz (s : ByteArray) : (cutH s).size ≤ s.size ∧ (cutV s).size ≤ s.size := by
  have : s.data.toList.length = s.size := by simp
  unfold cutH cutV
  by_cases h : (58 : UInt8) ∈ s.data.toList
  · obtain ⟨a, b, e, ha⟩ := first_at _ _ h
    have hcut := cut_has a b 58 ha
    rw [← e] at hcut
    rw [hcut]
    rw [e] at this
    simp at this
    constructor
    · show a.toArray.size ≤ _; simp; omega
    · show b.toArray.size ≤ _; simp; omega
  · rw [cut_not _ _ h]
    constructor
    · show s.data.toList.toArray.size ≤ _; simp
    · show ([] : List UInt8).toArray.size ≤ _; simp
set_option maxHeartbeats 8000000 in
theorem fparse_any (s : ByteArray) (hs : s.size ≤ 1000000) (w : World) (hT : Tabs w) (hM : Mx w) (hD : Day.Tab w.heap.size w) : Calls Tryz.prog 7 #[.string s] w fun e w' => e = .returned (fldV (parseF s)) ∧ Below w.heap.size w w' := by
  have hlt := hM.lt
  have HT := Lib.hid hT
  have HD := Lib.hid hD
  have HMx := Lib.hid hM
  obtain ⟨m, hm⟩ := hM
  have hm2 : (w.alloc (.cells #[.int .i64 0, .int .i64 0, .string ⟨#[]⟩] 23)).cell? ⟨2, 0, none⟩ = some (.int .i64 m) := by
    have hb0 : Below w.heap.size w (w.alloc (.cells #[.int .i64 0, .int .i64 0, .string ⟨#[]⟩] 23)) := (Below.refl _ _).alloc (Nat.le_refl _) _
    simp only [World.cell?] at hm ⊢
    rw [hb0.block 2 hlt]; exact hm
  have hC := Tryz.strings_Cut s ⟨#[58]⟩ m _ (by omega) hm2
  obtain ⟨z1, z2⟩ := cut_sz s
  have hr0 : parseF s = if cutO s = true then findF (cutH s) (cutV s) else noF := rfl
  rw [show (⟨#[58]⟩ : ByteArray).data.toList = [58] from rfl] at hC
  have hC2 : Calls Tryz.prog 22 #[.string s, .string ⟨#[58]⟩] (w.alloc (.cells #[.int .i64 0, .int .i64 0, .string ⟨#[]⟩] 23)) fun e w' => e = .returned (.tuple #[.string (cutH s), .string (cutV s), .bool (cutO s)]) ∧ ∃ n, w' = (w.alloc (.cells #[.int .i64 0, .int .i64 0, .string ⟨#[]⟩] 23)).drewN n := hC
  obtain ⟨h, hh⟩ : ∃ h, cutH s = h := ⟨_, rfl⟩
  obtain ⟨v, hv⟩ : ∃ v, cutV s = v := ⟨_, rfl⟩
  obtain ⟨o, ho⟩ : ∃ o, cutO s = o := ⟨_, rfl⟩
  rw [hh, hv, ho] at hC2 hr0
  rw [hv] at z2
  obtain ⟨r, hr⟩ : ∃ r, parseF s = r := ⟨_, rfl⟩
  rw [hr] at hr0 ⊢
  have HR := Lib.hid hr0
  have HC := Lib.hid hC2
  have HV := Lib.hid (show v.size ≤ 1000000 by omega)
  have HP0 := Lib.hid (show ∀ n, Pw w ((w.alloc (.cells #[.int .i64 0, .int .i64 0, .string ⟨#[]⟩] 23)).drewN n) from fun n => ⟨(Blk.new w _ _).drewN n, below_drewN ((Below.refl _ _).alloc (Nat.le_refl _) _) n⟩)
  clear hm2 hr0 hr hC hC2 hh hv ho z1 z2 hm hT hD hlt hs
  cases o with
  | false =>
    have H0 := Lib.hid (show r = noF from HR.out)
    go_enter Tryz.func7, Tryz.ntmps7
    go_wp2_with (go_at_call 22; (with_reducible refine (HC.out).mono ?_); rintro e w1 ⟨rfl, n1, hw⟩; subst hw; have HP1 := Lib.hid (HP0.out n1); have b0 := HP1.out.res.cell 0; have b1 := HP1.out.res.cell 1; have b2 := HP1.out.res.cell 2; have g0 := HP1.out.res.frozen 0; have g1 := HP1.out.res.frozen 1; have g2 := HP1.out.res.frozen 2)
    (try simp only [Exit.inBlock, Exit.then])
    rw [H0.out]
    exact parse_out (cs := #[.int .i64 0, .int .i64 0, .string ⟨#[]⟩]) (g := w.heap.size) rfl rfl rfl (put3 HP1.out.res _ _ _) ⟨rfl, bel3 HP1.out.bel (Nat.le_refl _) _ _ _⟩
  | true =>
    have HR2 := Lib.hid (show r = findF h v from HR.out)
    clear HR
    go_enter Tryz.func7, Tryz.ntmps7
    go_wp2_with (go_at_call 22; (with_reducible refine (HC.out).mono ?_); rintro e w1 ⟨rfl, n1, hw⟩; subst hw; have HP1 := Lib.hid (HP0.out n1))
    go_loopw [7] (fun i wr => ∃ k : Nat, 1 ≤ k ∧ k ≤ 7 ∧ i = .int .i64 (k : Int) ∧ noBefore h v (k : Int) ∧ Pw w wr) (fun i _ => 7 - (intOf i).toNat)
    case atStart => exact ⟨1, by decide, by decide, rfl, fun a b h1 h2 _ _ => by omega, HP1.out⟩
    case round =>
      obtain ⟨k, hk1, hk7, rfl, hN, hP⟩ := hrel
      have HN := Lib.hid hN
      have HP := Lib.hid hP
      clear hN hP
      by_cases hk : k ≤ 6
      · have hkI : (k : Int) ≤ 6 := by omega
        go_wp2
        (try simp only [show decide ((k : Int) ≤ 6) = true from decide_eq_true hkI])
        go_loopw [8] (fun i wr => ∃ l : Nat, l ≤ 4 ∧ i = .int .i64 (l : Int) ∧ noIn h v (k : Int) (l : Int) ∧ Pw w wr) (fun i _ => 4 - (intOf i).toNat)
        case atStart => exact ⟨0, by decide, rfl, fun b h1 h2 => by omega, HP.out⟩
        case round =>
          obtain ⟨l, hl4, rfl, hI, hP⟩ := hrel
          have HI := Lib.hid hI
          have HQ := Lib.hid hP
          clear hI hP
          by_cases hl : l ≤ 3
          · have hf0 : fits h v (k : Int) (l : Int) = ((h.toList == (headW (k : Int) (l : Int)).toList) && mayF (k : Int) (l : Int) v) := rfl
            have HONE := Lib.hid (fun (e : fits h v (k : Int) (l : Int) = true) => find_one (h := h) (v := v) (k := (k : Int)) (l := (l : Int)) (by omega) (by omega) (by omega) (by omega) e)
            have HNX := Lib.hid (fun (e : fits h v (k : Int) (l : Int) = false) => HI.out.next e)
            have HH := Lib.hid (fun w => head_any (k : Int) (l : Int) w)
            have HMA := Lib.hid (fun wr (hb : Below w.heap.size w wr) => fmay_any (k : Int) (l : Int) v HV.out wr (tabs_on HT.out hb (tabs_size HT.out)) (HMx.out.keep hb HMx.out.lt) (Day.tab_on HD.out hb))
            obtain ⟨A, hA⟩ : ∃ A, headW (k : Int) (l : Int) = A := ⟨_, rfl⟩
            obtain ⟨M, hMay⟩ : ∃ M, mayF (k : Int) (l : Int) v = M := ⟨_, rfl⟩
            rw [hA] at HH hf0
            rw [hMay] at HMA hf0
            clear hA hMay
            cases hq : (h.toList == A.toList) with
            | false =>
              rw [hq] at hf0
              have HF := Lib.hid (show fits h v (k : Int) (l : Int) = false from hf0)
              have HZ := Lib.hid (HQ.out.alloc (.cells #[.int .i64 (k : Int), .int .i64 (l : Int), .string v] 23))
              clear hf0
              go_wp2_with (go_at_call 23; (with_reducible refine (HH.out _).mono ?_); rintro e w2 ⟨rfl, hw⟩; replace hw := hw.symm; subst hw)
              go_roundw
              case rel => exact ⟨l + 1, by omega, by go_num, by have := HNX.out HF.out; simpa using this, HZ.out⟩
              case measure => simp [intOf]; omega
            | true =>
              rw [hq] at hf0
              cases M with
              | false =>
                have HF := Lib.hid (show fits h v (k : Int) (l : Int) = false from hf0)
                clear hf0
                go_wp2_with (first
                  | (go_at_call 23; (with_reducible refine (HH.out _).mono ?_); rintro e w2 ⟨rfl, hw⟩; replace hw := hw.symm; subst hw)
                  | (go_at_call 9; (with_reducible refine (HMA.out _ (HQ.out.alloc _).bel).mono ?_); rintro e w3 ⟨rfl, hb⟩; have HZ := Lib.hid ((HQ.out.alloc _).step hb); clear hb))
                go_roundw
                case rel => exact ⟨l + 1, by omega, by go_num, by have := HNX.out HF.out; simpa using this, HZ.out⟩
                case measure => simp [intOf]; omega
              | true =>
                have HF := Lib.hid (show r = ⟨(k : Int), (l : Int), v, 0⟩ by rw [HR2.out]; exact HONE.out hf0)
                clear hf0
                go_wp2_with (first
                  | (go_at_call 23; (with_reducible refine (HH.out _).mono ?_); rintro e w2 ⟨rfl, hw⟩; replace hw := hw.symm; subst hw)
                  | (go_at_call 9; (with_reducible refine (HMA.out _ (HQ.out.alloc _).bel).mono ?_); rintro e w3 ⟨rfl, hb⟩; have HZ := Lib.hid ((HQ.out.alloc _).step hb); have HY := Lib.hid ((Blk.new wr _ _).below hb (by simp)); have a0 := HY.out.cell 0; have a1 := HY.out.cell 1; have a2 := HY.out.cell 2; have b0 := HZ.out.res.cell 0; have b1 := HZ.out.res.cell 1; have b2 := HZ.out.res.cell 2; have g0 := HZ.out.res.frozen 0; have g1 := HZ.out.res.frozen 1; have g2 := HZ.out.res.frozen 2; clear hb))
                (try simp only [Exit.inBlock, Exit.then])
                rw [HF.out]
                exact parse_out (cs := #[.int .i64 (k : Int), .int .i64 (l : Int), .string v]) (g := w.heap.size) rfl rfl rfl (put3 HZ.out.res _ _ _) ⟨rfl, bel3 HZ.out.bel (Nat.le_refl _) _ _ _⟩
          · obtain rfl : l = 4 := by omega
            have HB := Lib.hid (HN.out.next HI.out)
            go_wp2
            go_roundw
            case rel => exact ⟨k + 1, by omega, by omega, by go_num, by have := HB.out; simpa using this, HQ.out⟩
            case measure => simp [intOf]; omega
      · obtain rfl : k = 7 := by omega
        have H0 := Lib.hid (show r = noF by rw [HR2.out]; exact find_none fun a b h1 h2 h3 h4 => HN.out a b h1 (by omega) h3 h4)
        have b0 := HP.out.res.cell 0
        have b1 := HP.out.res.cell 1
        have b2 := HP.out.res.cell 2
        have g0 := HP.out.res.frozen 0
        have g1 := HP.out.res.frozen 1
        have g2 := HP.out.res.frozen 2
        go_wp2
        (try simp only [Exit.inBlock, Exit.then])
        rw [H0.out]
        exact parse_out (cs := #[.int .i64 0, .int .i64 0, .string ⟨#[]⟩]) (g := w.heap.size) rfl rfl rfl (put3 HP.out.res _ _ _) ⟨rfl, bel3 HP.out.bel (Nat.le_refl _) _ _ _⟩
end Go.Proofs.YthknkglhppngoaaGreatDoor
/- Boxes that a call holds: what stands in them while other calls come and go. -/
namespace Go.Proofs.YthknkglhppngoaaGreatDoor
open Go.RowKit
structure Bxs (w0 wr : World) (l : List (Nat × TypeId × Array Value)) : Prop where
  all : ∀ g t cs, (g, t, cs) ∈ l → Blk wr g t cs
  bel : Below w0.heap.size w0 wr
section
variable {w0 wr w' : World} {l : List (Nat × TypeId × Array Value)}
theorem Bxs.start (w : World) : Bxs w w [] := ⟨fun _ _ _ h => by simp at h, Below.refl _ _⟩
theorem Bxs.get (h : Bxs w0 wr l) (i : Nat) {g : Nat} {t : TypeId} {cs : Array Value} (e : l[i]? = some (g, t, cs)) : Blk wr g t cs := h.all g t cs (List.mem_of_getElem? e)
theorem Bxs.step (h : Bxs w0 wr l) (hb : Below wr.heap.size wr w') : Bxs w0 w' l := ⟨fun g t cs hm => (h.all g t cs hm).below hb (h.all g t cs hm).lt, h.bel.trans (hb.mono h.bel.size)⟩
theorem Bxs.new (h : Bxs w0 wr l) (t : TypeId) (cs : Array Value) : Bxs w0 (wr.alloc (.cells cs t)) (l ++ [(wr.heap.size, t, cs)]) :=
  ⟨fun g u ds hm => by
    rcases List.mem_append.1 hm with hm | hm
    · exact (h.all g u ds hm).alloc _
    · simp only [List.mem_singleton, Prod.mk.injEq] at hm
      obtain ⟨rfl, rfl, rfl⟩ := hm
      exact Blk.new _ _ _, h.bel.alloc h.bel.size _⟩
theorem Bxs.alloc (h : Bxs w0 wr l) (o : Obj) : Bxs w0 (wr.alloc o) l := ⟨fun g t cs hm => (h.all g t cs hm).alloc o, h.bel.alloc h.bel.size o⟩
theorem Bxs.drewN (h : Bxs w0 wr l) (n : Nat) : Bxs w0 (wr.drewN n) l := ⟨fun g t cs hm => (h.all g t cs hm).drewN n, below_drewN h.bel n⟩
theorem Bxs.drew (h : Bxs w0 wr l) : Bxs w0 wr.drew l := h.drewN 1
end
end Go.Proofs.YthknkglhppngoaaGreatDoor
/- Lines of a contact: the document's example; the contracts wherever the walk stands. -/
namespace Go.Proofs.YthknkglhppngoaaGreatDoor
open Go.RowKit
open Go.Lib hiding intOf
set_option linter.unusedVariables false
set_option maxRecDepth 20000
attribute [local go_sem ↓] Go.wp_at_zero Go.wp_at_succ
structure Env (w : World) : Prop where
  t : Tabs w
  m : Mx w
  d : Day.Tab w.heap.size w
theorem Env.on {w v : World} (h : Env w) (hb : Below w.heap.size w v) : Env v := ⟨tabs_on h.t hb (tabs_size h.t), h.m.keep hb h.m.lt, Day.tab_on h.d hb⟩
theorem parse_on (s : ByteArray) (hs : s.size ≤ 1000000) (k l : Int) (v : ByteArray) (e : Int) (hr : parseF s = ⟨k, l, v, e⟩) (w : World) (h : Env w) : Calls Tryz.prog 7 #[.string s] w fun x w' => x = .returned (.tuple #[.agg #[.int .i64 k, .int .i64 l, .string v], .int .i64 e]) ∧ Below w.heap.size w w' := by
  have := fparse_any s hs w h.t h.m h.d
  rw [hr] at this
  exact this
theorem line_on (k l : Int) (v : ByteArray) (hs : v.size ≤ 1000000) (r : ByteArray) (hr : lineF k l v = r) (w : World) (h : Env w) : Calls Tryz.prog 11 #[.agg #[.int .i64 k, .int .i64 l, .string v]] w fun x w' => x = .returned (.string r) ∧ Below w.heap.size w w' := by
  have := fline_any k l v hs w h.t h.m h.d
  rw [hr] at this
  exact this
theorem may_on (k l : Int) (v : ByteArray) (hs : v.size ≤ 1000000) (r : Bool) (hr : mayF k l v = r) (w : World) (h : Env w) : Calls Tryz.prog 9 #[.agg #[.int .i64 k, .int .i64 l, .string v]] w fun x w' => x = .returned (.bool r) ∧ Below w.heap.size w w' := by
  have := fmay_any k l v hs w h.t h.m h.d
  rw [hr] at this
  exact this
theorem canon_on (k l : Int) (v : ByteArray) (hs : v.size ≤ 1000000) (k2 l2 : Int) (v2 : ByteArray) (e : Int) (hr : canonV k l v = .tuple #[.agg #[.int .i64 k2, .int .i64 l2, .string v2], .int .i64 e]) (w : World) (h : Env w) : Calls Tryz.prog 5 #[.agg #[.int .i64 k, .int .i64 l, .string v]] w fun x w' => x = .returned (.tuple #[.agg #[.int .i64 k2, .int .i64 l2, .string v2], .int .i64 e]) ∧ Below w.heap.size w w' := by
  have := fcanon_any k l v hs w h.t h.m h.d
  rw [hr] at this
  exact this
theorem ex_parse : parseF ⟨#[116, 101, 108, 59, 99, 101, 108, 108, 58, 43, 52, 57, 51, 48, 49, 50, 51, 52, 53, 54]⟩ = ⟨3, 3, ⟨#[43, 52, 57, 51, 48, 49, 50, 51, 52, 53, 54]⟩, 0⟩ := by
  have hm : mayF 3 3 ⟨#[43, 52, 57, 51, 48, 49, 50, 51, 52, 53, 54]⟩ = true := by decide +kernel
  have hl : lineF 3 3 ⟨#[43, 52, 57, 51, 48, 49, 50, 51, 52, 53, 54]⟩ = ⟨#[116, 101, 108, 59, 99, 101, 108, 108, 58, 43, 52, 57, 51, 48, 49, 50, 51, 52, 53, 54]⟩ := by decide +kernel
  rw [← hl]; exact parse_line hm
theorem ex_line : lineF 3 3 ⟨#[43, 52, 57, 51, 48, 49, 50, 51, 52, 53, 54]⟩ = ⟨#[116, 101, 108, 59, 99, 101, 108, 108, 58, 43, 52, 57, 51, 48, 49, 50, 51, 52, 53, 54]⟩ := by decide +kernel
theorem ex_may : mayF 3 3 ⟨#[43, 52, 57, 51, 48, 49, 50, 51, 52, 53, 54]⟩ = true := by decide +kernel
set_option maxHeartbeats 4000000 in
theorem first_any (w : World) (h : Env w) : Calls Tryz.prog 4 #[] w fun e w' => e = .returned (.bool true) ∧ Below w.heap.size w w' := by
  have HP := Lib.hid (parse_on _ (by decide) _ _ _ _ ex_parse)
  have HL := Lib.hid (line_on _ _ _ (by decide) _ ex_line)
  have HM := Lib.hid (may_on _ _ _ (by decide) _ ex_may)
  have HE := Lib.hid h
  clear h
  go_enter Tryz.func4, Tryz.ntmps4
  go_wp2_with (go_at_call 7; (with_reducible refine (HP.out _ HE.out).mono ?_); rintro e w1 ⟨rfl, hb⟩; have HX1 := Lib.hid (((Bxs.start w).step hb).new 23 #[.int .i64 3, .int .i64 3, .string ⟨#[43, 52, 57, 51, 48, 49, 50, 51, 52, 53, 54]⟩]); clear hb)
  go_wp2_with (go_at_call 11; (with_reducible refine (HL.out _ (HE.out.on HX1.out.bel)).mono ?_); rintro e w2 ⟨rfl, hb⟩; have HX2 := Lib.hid (HX1.out.step hb); have a0 := (HX2.out.get 0 rfl).cell 0; have a1 := (HX2.out.get 0 rfl).cell 1; have a2 := (HX2.out.get 0 rfl).cell 2; clear hb)
  go_wp2_with (go_at_call 9; (with_reducible refine (HM.out _ (HE.out.on HX2.out.bel)).mono ?_); rintro e w3 ⟨rfl, hb⟩; have HX3 := Lib.hid (HX2.out.step hb); clear hb)
  go_ret
  exact ⟨rfl, HX3.out.bel⟩
end Go.Proofs.YthknkglhppngoaaGreatDoor
/- Boxes that a call holds: the parameters' ones. -/
namespace Go.Proofs.YthknkglhppngoaaGreatDoor
open Go.RowKit
variable {w0 wr w' : World} {l : List (Nat × TypeId × Array Value)}
theorem Bxs.put (h : Bxs w0 wr l) (t : TypeId) (cs : Array Value) (g : Nat) (e : wr.heap.size = g) : Bxs w0 (wr.alloc (.cells cs t)) (l ++ [(g, t, cs)]) := e ▸ h.new t cs
theorem Bxs.two (w : World) (t u : TypeId) (a b : Array Value) : Bxs w ((w.alloc (.cells a t)).alloc (.cells b u)) [(w.heap.size, t, a), (w.heap.size + 1, u, b)] := ((Bxs.start w).new t a).put u b _ (by simp)
theorem Bxs.three (w : World) (t u v : TypeId) (a b c : Array Value) : Bxs w (((w.alloc (.cells a t)).alloc (.cells b u)).alloc (.cells c v)) [(w.heap.size, t, a), (w.heap.size + 1, u, b), (w.heap.size + 1 + 1, v, c)] := (Bxs.two w t u a b).put v c _ (by simp)
end Go.Proofs.YthknkglhppngoaaGreatDoor
/- Lines of a contact: the document's own Less. -/
namespace Go.Proofs.YthknkglhppngoaaGreatDoor
open Go.RowKit
open Go.Lib
set_option linter.unusedVariables false
set_option maxRecDepth 20000
attribute [local go_sem ↓] Go.wp_at_zero Go.wp_at_succ
set_option maxHeartbeats 2000000 in
theorem frless_any (k l : Int) (v : ByteArray) (k2 l2 : Int) (v2 : ByteArray) (w : World) : Calls Tryz.prog 14 #[fieldV k l v, fieldV k2 l2 v2] w fun e w' => e = .returned (.bool (lessF k l v k2 l2 v2)) ∧ Below w.heap.size w w' := by
  obtain ⟨r, hr⟩ : ∃ r, lessF k l v k2 l2 v2 = r := ⟨_, rfl⟩
  rw [hr]
  have HR := Lib.hid (show r = if k = k2 then (if l = l2 then Op.bytesLess v.toList v2.toList else decide (l < l2)) else decide (k < k2) by rw [← hr]; rfl)
  clear hr
  by_cases h : k = k2
  · have d : (k != k2) = false := by simpa using h
    by_cases g : l = l2
    · have d2 : (l != l2) = false := by simpa using g
      have H0 := Lib.hid (show r = Op.bytesLess v.toList v2.toList by rw [HR.out, if_pos h, if_pos g])
      go_enter Tryz.func14, Tryz.ntmps14
      go_wp2
      go_ret
      exact ⟨by rw [H0.out]; rfl, two_boxes _ _ _ _⟩
    · have d2 : (l != l2) = true := by simpa using g
      have H0 := Lib.hid (show r = decide (l < l2) by rw [HR.out, if_pos h, if_neg g])
      go_enter Tryz.func14, Tryz.ntmps14
      go_wp2
      go_ret
      exact ⟨by rw [H0.out]; rfl, two_boxes _ _ _ _⟩
  · have d : (k != k2) = true := by simpa using h
    have H0 := Lib.hid (show r = decide (k < k2) by rw [HR.out, if_neg h])
    go_enter Tryz.func14, Tryz.ntmps14
    go_wp2
    go_ret
    exact ⟨by rw [H0.out]; rfl, two_boxes _ _ _ _⟩
end Go.Proofs.YthknkglhppngoaaGreatDoor
namespace Go.Proofs.YthknkglhppngoaaGreatDoor
open Go.RowKit Go.Lib
set_option linter.unusedVariables false
def rcG : Nat → List UInt8 → Nat
  | 0, _ => 0
  | f + 1, l => if l = [] then 0 else 1 + rcG f (l.drop (decodeL l).2)
theorem rc_list (s : ByteArray) : ∀ fuel pos, runeCountFrom s fuel pos = rcG fuel (s.data.toList.drop pos)
  | 0, _ => rfl
  | f + 1, pos => by
    have ih := rc_list s f (pos + (Utf8.decode s pos).2)
    unfold runeCountFrom rcG
    by_cases h : pos < s.size
    · rw [if_pos h, if_neg (fun e => by have := congrArg List.length e; simp at this; omega), ih, decodeL_drop, List.drop_drop]
    · rw [if_neg h, if_pos (List.drop_of_length_le (by simp; omega))]
theorem rcG_nil : ∀ n, rcG n [] = 0
  | 0 => rfl
  | _ + 1 => by simp [rcG]
theorem rcG_fuel : ∀ (n m : Nat) (l : List UInt8), l.length ≤ n → l.length ≤ m → rcG n l = rcG m l
  | 0, m, l, hn, _ => by
    obtain rfl : l = [] := List.eq_nil_of_length_eq_zero (by omega)
    rw [rcG_nil, rcG_nil]
  | n + 1, 0, l, _, hm => by
    obtain rfl : l = [] := List.eq_nil_of_length_eq_zero (by omega)
    rw [rcG_nil, rcG_nil]
  | n + 1, m + 1, l, hn, hm => by
    unfold rcG
    by_cases hne : l = []
    · rw [if_pos hne, if_pos hne]
    · have hw := decodeL_width l
      have hl : 0 < l.length := List.length_pos_iff.2 hne
      rw [if_neg hne, if_neg hne, rcG_fuel n m _ (by simp; omega) (by simp; omega)]
def rcL (l : List UInt8) : Nat := rcG l.length l
theorem runeCount_rcL (s : ByteArray) : runeCount s = rcL s.data.toList := by
  unfold runeCount rcL
  rw [rc_list, List.drop_zero]
  simp
theorem rcL_nil : rcL [] = 0 := rfl
theorem rcL_step (l : List UInt8) (hne : l ≠ []) : rcL l = 1 + rcL (l.drop (decodeL l).2) := by
  have hw := decodeL_width l
  have hl : 0 < l.length := List.length_pos_iff.2 hne
  obtain ⟨n, hn⟩ : ∃ n, l.length = n + 1 := ⟨l.length - 1, by omega⟩
  have e : rcL l = rcG (n + 1) l := by unfold rcL; rw [hn]
  rw [e]
  unfold rcG rcL
  rw [if_neg hne, rcG_fuel n (l.drop (decodeL l).2).length _ (by simp; omega) (Nat.le_refl _)]
theorem rcL_cons (c : UInt8) (t : List UInt8) (h : c.toNat < 128) : rcL (c :: t) = 1 + rcL t := by
  rw [rcL_step _ (by simp), decodeL_ascii c t h]; rfl
set_option maxHeartbeats 2000000 in
theorem lead_run2 (l : List UInt8) (hne : l ≠ []) (h0 : 128 ≤ (l.getD 0 0).toNat) (hv : validD l = true) :
    ∃ k, 2 ≤ k ∧ k ≤ l.length ∧ validD (l.drop k) = true ∧ (∀ j, j < k → 128 ≤ (l.getD j 0).toNat ∧ (0 < j → (l.getD j 0).toNat ≤ 191)) ∧ ∀ m : List UInt8, k ≤ m.length → (∀ j, j < k → m.getD j 0 = l.getD j 0) → validD m = validD (m.drop k) ∧ (decodeL m).2 = k := by
  rw [validD_lead l hne h0] at hv
  have fin : ∀ sz lo hi, firstT (l.getD 0 0).toNat % 8 = sz → accLo (firstT (l.getD 0 0).toNat / 16) = lo → accHi (firstT (l.getD 0 0).toNat / 16) = hi → (sz = 2 ∨ sz = 3 ∨ sz = 4 → 128 ≤ lo ∧ hi ≤ 191) → (sz = 2 ∨ sz = 3 ∨ sz = 4 ∨ (sz ≠ 2 ∧ sz ≠ 3 ∧ sz ≠ 4)) →
      ∃ k, 2 ≤ k ∧ k ≤ l.length ∧ validD (l.drop k) = true ∧ (∀ j, j < k → 128 ≤ (l.getD j 0).toNat ∧ (0 < j → (l.getD j 0).toNat ≤ 191)) ∧ ∀ m : List UInt8, k ≤ m.length → (∀ j, j < k → m.getD j 0 = l.getD j 0) → validD m = validD (m.drop k) ∧ (decodeL m).2 = k := by
    intro sz lo hi e1 e2 e3 hlo hsz
    rw [e1, e2, e3] at hv
    have hm : ∀ (k : Nat) (m : List UInt8), 2 ≤ k → k ≤ m.length → (∀ j, j < k → m.getD j 0 = l.getD j 0) → checkN m.length (m.getD 1 0).toNat (m.getD 2 0).toNat (m.getD 3 0).toNat sz lo hi = some k → validD m = validD (m.drop k) ∧ (decodeL m).2 = k := by
      intro k m h2 hk he hc
      have h00 := he 0 (by omega)
      refine ⟨by rw [validD_lead m (by rintro rfl; simp at hk; omega) (by rw [h00]; exact h0), h00, e1, e2, e3, hc], ?_⟩
      rw [decodeL_N]
      rcases check_decode m.length (m.getD 0 0).toNat (m.getD 1 0).toNat (m.getD 2 0).toNat (m.getD 3 0).toNat (by omega) (by rw [h00]; exact h0) (m.getD 0 0).toNat_lt (m.getD 1 0).toNat_lt (m.getD 2 0).toNat_lt (m.getD 3 0).toNat_lt with ⟨hc', _⟩ | ⟨k', _, hc', hd⟩
      · rw [h00, e1, e2, e3, hc] at hc'; cases hc'
      · rw [h00, e1, e2, e3, hc] at hc'
        rw [hd]; exact (Option.some.inj hc').symm
    rcases hsz with rfl | rfl | rfl | ⟨n2, n3, n4⟩
    · have hlo := hlo (by decide)
      unfold checkN at hv hm
      simp only [if_true] at hv hm
      split at hv
      next h => split at h <;> simp_all
      next k h =>
        split at h
        · cases h
        · obtain rfl := Option.some.inj h
          refine ⟨2, by omega, by omega, hv, fun j hj => ?_, fun m hk he => hm 2 m (by omega) hk he ?_⟩
          · match j, hj with
            | 0, _ => exact ⟨h0, fun h => absurd h (by omega)⟩
            | 1, _ => omega
          · rw [he 1 (by omega), if_neg (by omega)]
    · have hlo := hlo (by decide)
      unfold checkN at hv hm
      simp only [if_true, show ¬ (3 = 2) by decide, if_false] at hv hm
      split at hv
      next h => split at h <;> simp_all
      next k h =>
        split at h
        · cases h
        · obtain rfl := Option.some.inj h
          refine ⟨3, by omega, by omega, hv, fun j hj => ?_, fun m hk he => hm 3 m (by omega) hk he ?_⟩
          · match j, hj with
            | 0, _ => exact ⟨h0, fun h => absurd h (by omega)⟩
            | 1, _ => omega
            | 2, _ => omega
          · rw [he 1 (by omega), he 2 (by omega), if_neg (by omega)]
    · have hlo := hlo (by decide)
      unfold checkN at hv hm
      simp only [if_true, show ¬ (4 = 2) by decide, show ¬ (4 = 3) by decide, if_false] at hv hm
      split at hv
      next h => split at h <;> simp_all
      next k h =>
        split at h
        · cases h
        · obtain rfl := Option.some.inj h
          refine ⟨4, by omega, by omega, hv, fun j hj => ?_, fun m hk he => hm 4 m (by omega) hk he ?_⟩
          · match j, hj with
            | 0, _ => exact ⟨h0, fun h => absurd h (by omega)⟩
            | 1, _ => omega
            | 2, _ => omega
            | 3, _ => omega
          · rw [he 1 (by omega), he 2 (by omega), he 3 (by omega), if_neg (by omega)]
    · unfold checkN at hv
      rw [if_neg n2, if_neg n3, if_neg n4] at hv
      cases hv
  refine fin _ _ _ rfl rfl rfl ?_ (by omega)
  rcases firstT_cases (l.getD 0 0).toNat with h | h | h | h | h | h | h | h | h <;> rw [h] <;> decide
theorem lead_app (l : List UInt8) (k : Nat) (hk : k ≤ l.length) (h : ∀ m : List UInt8, k ≤ m.length → (∀ j, j < k → m.getD j 0 = l.getD j 0) → validD m = validD (m.drop k) ∧ (decodeL m).2 = k) (r : List UInt8) : (decodeL (l.take k ++ r)).2 = k := by
  have hl : (l.take k).length = k := by simp; omega
  exact (h (l.take k ++ r) (by simp; omega) (fun j hj => by
    simp only [List.getD_eq_getElem?_getD]
    rw [List.getElem?_append_left (by omega), List.getElem?_take, if_pos hj])).2
/-- A valid text and whatever stands behind it: as many signs as both. -/
theorem rcL_app : ∀ (n : Nat) (l r : List UInt8), l.length ≤ n → validD l = true → rcL (l ++ r) = rcL l + rcL r
  | _, [], r, _, _ => by rw [List.nil_append, rcL_nil]; omega
  | 0, _ :: _, _, h, _ => by simp at h
  | n + 1, c :: t, r, h, hv => by
    by_cases hc : c.toNat < 128
    · rw [validD_cons c t hc] at hv
      rw [List.cons_append, rcL_cons _ _ hc, rcL_cons _ _ hc, rcL_app n t r (by simp at h; omega) hv]; omega
    · obtain ⟨k, h2, hk, hd, _, hm⟩ := lead_run2 (c :: t) (by simp) (by simp; omega) hv
      have e1 : c :: t = (c :: t).take k ++ (c :: t).drop k := (List.take_append_drop _ _).symm
      have w1 : (decodeL (c :: t)).2 = k := by have := lead_app _ k hk hm ((c :: t).drop k); rwa [← e1] at this
      have e2 : (c :: t) ++ r = (c :: t).take k ++ ((c :: t).drop k ++ r) := by rw [← List.append_assoc, ← e1]
      have w2 : (decodeL ((c :: t) ++ r)).2 = k := by rw [e2]; exact lead_app _ k hk hm _
      have d2 : ((c :: t) ++ r).drop k = (c :: t).drop k ++ r := List.drop_append_of_le_length hk
      rw [rcL_step ((c :: t) ++ r) (by simp), w2, d2, rcL_step (c :: t) (by simp), w1, rcL_app n _ r (by simp at h ⊢; omega) hd]
      omega
end Go.Proofs.YthknkglhppngoaaGreatDoor
