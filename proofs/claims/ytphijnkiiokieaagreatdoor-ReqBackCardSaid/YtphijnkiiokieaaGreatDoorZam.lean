/- card: the order of fields, to the world. -/
import Derived.Test.YtphijnkiiokieaaGreatDoorZah
import Derived.Test.YtphijnkiiokieaaGreatDoorZal
import Derived.Test.YtphijnkiiokieaaGreatDoorZai
import Derived.Test.YtphijnkiiokieaaGreatDoorZaj
import Derived.Test.YtphijnkiiokieaaGreatDoorZae
import Derived.Test.YtphijnkiiokieaaGreatDoorZaa
import Derived.Lib.SlicesCompact
import Derived.Sort.LotA
import Derived.Shelf.SlSortCmp.Insertion
import Derived.Sort.Grow
/- Texts made clean: clean twice. -/
namespace Go.Proofs.YtphijnkiiokieaaGreatDoor
open Go.RowKit
set_option linter.unusedVariables false
theorem cleanOf_ok {v c : Bool} {t : ByteArray} (h : (cleanOf v c t).2 = 0) : v = true ∧ c = false ∧ t ≠ ⟨#[]⟩ ∧ (t.size : Int) ≤ 64 ∧ cleanOf v c t = (t, 0) := by
  unfold cleanOf at h ⊢
  split at h
  · simp at h
  · split at h
    · simp at h
    · split at h
      · simp at h
      · rename_i h1 h2 h3
        rw [if_neg h1, if_neg h2, if_neg h3]
        cases v <;> cases c <;> simp_all
theorem clean_mk (s t : ByteArray) (hv : Lib.validD s.data.toList = true) (hc : s.data.toList.any ctl = false) (hs : sq s.data.toList = t.data.toList) (h0 : t ≠ ⟨#[]⟩) (h1 : (t.size : Int) ≤ 64) : cleanS s = (t, 0) := by
  unfold cleanS
  rw [hv, hc, squeezeS_sq, hs]
  unfold cleanOf
  rw [if_neg (by decide), if_neg h0, if_neg (by show ¬ 64 < (t.size : Int); omega)]
theorem clean_ok (a : ByteArray) (h : (cleanS a).2 = 0) : Lib.validD a.data.toList = true ∧ a.data.toList.any ctl = false ∧ ∃ t : ByteArray, t.data.toList = sq a.data.toList ∧ t ≠ ⟨#[]⟩ ∧ (t.size : Int) ≤ 64 ∧ cleanS a = (t, 0) := by
  have := cleanOf_ok h
  exact ⟨this.1, this.2.1, squeezeS a, by rw [squeezeS_sq], this.2.2.1, this.2.2.2.1, this.2.2.2.2⟩
theorem clean_twice (a t : ByteArray) (hv : Lib.validD a.data.toList = true) (hc : a.data.toList.any ctl = false) (hs : t.data.toList = sq a.data.toList) (h0 : t ≠ ⟨#[]⟩) (h1 : (t.size : Int) ≤ 64) : cleanS t = (t, 0) :=
  clean_mk t t (by rw [hs]; exact (sq_whole _ hv).valid) (by rw [hs]; exact sq_ctl _ hc) (by rw [hs, sq_sq]) h0 h1
theorem clean_self (a : ByteArray) (h : (cleanS a).2 = 0) : cleanS (cleanS a).1 = ((cleanS a).1, 0) := by
  obtain ⟨hv, hc, t, hs, h0, h1, e⟩ := clean_ok a h
  rw [e]
  exact clean_twice a t hv hc hs h0 h1
end Go.Proofs.YtphijnkiiokieaaGreatDoor
/- Lines of a contact: canonical twice is canonical; what Canon answers. -/
namespace Go.Proofs.YtphijnkiiokieaaGreatDoor
open Go.RowKit
open Go.Lib hiding intOf
set_option linter.unusedVariables false
set_option maxRecDepth 20000
theorem value_self (k : Int) (s : ByteArray) (h : (valueS k s).2 = 0) : valueS k (valueS k s).1 = ((valueS k s).1, 0) := by
  unfold valueS at h ⊢
  by_cases h3 : k = 3
  · rw [if_pos h3] at h ⊢
    rw [if_pos h3]
    rcases tel_cases s with ⟨_, h2⟩ | ⟨h1, _⟩
    · exact tel_self h2
    · exact absurd h h1
  rw [if_neg h3] at h ⊢
  rw [if_neg h3]
  by_cases h4 : k = 4
  · rw [if_pos h4] at h ⊢
    rw [if_pos h4]
    rcases mail_cases s with ⟨_, h2⟩ | ⟨h1, _⟩
    · exact mail_self h2
    · exact absurd h h1
  rw [if_neg h4] at h ⊢
  rw [if_neg h4]
  by_cases h5 : k = 5 ∧ (cleanS s).2 = 0
  · rw [if_pos h5] at h ⊢
    have hc := clean_self s h5.2
    simp only at h ⊢
    rw [hc, if_pos ⟨h5.1, rfl⟩]
    simp only
    rw [h]
  · rw [if_neg h5] at h ⊢
    have hc := clean_self s h
    rw [hc]
    split
    · rename_i h6; exact absurd ⟨h6.1, h⟩ h5
    · rfl
theorem value_size (k : Int) (s : ByteArray) (h : (valueS k s).2 = 0) : (valueS k s).1.size ≤ 64 := by
  unfold valueS at h ⊢
  by_cases h3 : k = 3
  · rw [if_pos h3] at h ⊢
    rcases tel_cases s with ⟨_, h2⟩ | ⟨h1, _⟩
    · have := (tel_plain h2).2
      have e : (telS s).1.data.toList.length = (telS s).1.size := by simp
      omega
    · exact absurd h h1
  rw [if_neg h3] at h ⊢
  by_cases h4 : k = 4
  · rw [if_pos h4] at h ⊢
    rcases mail_cases s with ⟨_, h2⟩ | ⟨h1, _⟩
    · have := (mail_parts _ h2).len
      have e : (mailS s).1.data.toList.length = (mailS s).1.size := by simp
      omega
    · exact absurd h h1
  rw [if_neg h4] at h ⊢
  have hcl : (cleanS s).2 = 0 → (cleanS s).1.size ≤ 64 := fun h => by
    obtain ⟨_, _, t, _, _, h1, e⟩ := clean_ok s h
    rw [e]; show t.size ≤ 64; omega
  by_cases h5 : k = 5 ∧ (cleanS s).2 = 0
  · rw [if_pos h5] at h ⊢
    exact hcl h5.2
  · rw [if_neg h5] at h ⊢
    exact hcl h
theorem may_size {k l : Int} {v : ByteArray} (h : mayF k l v = true) : v.size ≤ 64 := by
  unfold mayF at h
  simp only [Bool.and_eq_true] at h
  obtain ⟨⟨_, h3⟩, h4⟩ := h
  have h5 : (valueS k v).2 = 0 := by simpa using h3
  have h6 : (valueS k v).1 = v := bs_ext (by simp only [ByteArray.toList_eq] at h4; exact eq_of_beq h4)
  have := value_size k v h5
  rwa [h6] at this
/-- What Canon answers, and what that answer is in turn. -/
theorem canon_cases (k l : Int) (v : ByteArray) : (∃ e, e ≠ 0 ∧ canonV k l v = .tuple #[fieldV 0 0 ⟨#[]⟩, .int .i64 e] ∧ mayF k l v = false) ∨ (∃ t, canonV k l v = .tuple #[fieldV k l t, .int .i64 0] ∧ mayF k l v = (t.toList == v.toList) ∧ mayF k l t = true ∧ canonV k l t = .tuple #[fieldV k l t, .int .i64 0] ∧ t.size ≤ 64) := by
  unfold canonV mayF
  cases h1 : (kindW k).toList.isEmpty with
  | true => exact .inl ⟨1, by decide, by rw [if_pos (.inl rfl)], by simp⟩
  | false =>
    cases h2 : labelledB k l with
    | false => exact .inl ⟨1, by decide, by rw [if_pos (.inr rfl)], by simp⟩
    | true =>
      rw [if_neg (by simp)]
      by_cases h3 : (valueS k v).2 = 0
      · have hv := value_self k v h3
        refine .inr ⟨(valueS k v).1, by rw [if_pos h3], by rw [h3]; simp, ?_, ?_, value_size k v h3⟩
        · rw [hv]; simp
        · rw [if_neg (by simp), hv, if_pos rfl]
      · refine .inl ⟨(valueS k v).2, h3, by rw [if_neg h3], ?_⟩
        have : ((valueS k v).2 == 0) = false := by simpa using h3
        rw [this]; simp
/-- Parse's value. -/
def fldV (f : Fld) : Value := .tuple #[fieldV f.k f.l f.v, .int .i64 f.e]
end Go.Proofs.YtphijnkiiokieaaGreatDoor
/- Lines of a contact: Parse. -/
namespace Go.Proofs.YtphijnkiiokieaaGreatDoor
open Go.RowKit
open Go.Lib hiding intOf
set_option linter.unusedVariables false
set_option maxRecDepth 20000
attribute [local go_sem ↓] Go.wp_at_zero Go.wp_at_succ
theorem parse_out {cs : Array Value} (hc : cs.size = 3) {R : Ending → World → Prop} {a : Act} {w : World} {g : Nat} (h2 : a.tmps.getD 2 undef = .pointer (some ⟨g, 0, none⟩)) (hd : a.defers = []) (hg : Blk w g 92 cs)
    (hR : R (.returned (.tuple #[.agg cs, a.tmps.getD 3 undef])) w) : bodyPost Tryz.prog Tryz.f86 R .ret a w :=
  bodyPost_ret (Day.results_cell1 (fn := Tryz.f86) rfl a.tmps Tryz.prog w g 92 cs (0, 0) _ h2 hg Tryz.underlying92 (by rw [hc]; rfl)) hd hR
def noBefore (h v : ByteArray) (k : Int) : Prop := ∀ a b : Int, 1 ≤ a → a < k → 0 ≤ b → b ≤ 3 → fits h v a b = false
def noIn (h v : ByteArray) (k l : Int) : Prop := ∀ b : Int, 0 ≤ b → b < l → fits h v k b = false
theorem noIn.next {h v : ByteArray} {k l : Int} (a : noIn h v k l) (b : fits h v k l = false) : noIn h v k (l + 1) := fun x h1 h2 => by
  by_cases e : x = l
  · rw [e]; exact b
  · exact a x h1 (by omega)
theorem noBefore.next {h v : ByteArray} {k : Int} (a : noBefore h v k) (b : noIn h v k 4) : noBefore h v (k + 1) := fun x y h1 h2 h3 h4 => by
  by_cases e : x = k
  · rw [e]; exact b y h3 (by omega)
  · exact a x y h1 (by omega) h3 h4
structure Pw (w wr : World) : Prop where
  res : Blk wr w.heap.size 92 #[.int .i64 0, .int .i64 0, .string ⟨#[]⟩]
  bel : Below w.heap.size w wr
theorem Pw.alloc {w wr : World} (h : Pw w wr) (o : Obj) : Pw w (wr.alloc o) := ⟨h.res.alloc o, h.bel.alloc h.bel.size o⟩
theorem Pw.step {w wr w' : World} (h : Pw w wr) (hb : Below wr.heap.size wr w') : Pw w w' := ⟨h.res.below hb h.res.lt, h.bel.trans (hb.mono h.bel.size)⟩
theorem cut_sz (s : ByteArray) : (cutH s).size ≤ s.size ∧ (cutV s).size ≤ s.size := by
  have : s.data.toList.length = s.size := by simp
  unfold cutH cutV
  by_cases h : (58 : UInt8) ∈ s.data.toList
  · obtain ⟨a, b, e, ha⟩ := first_at _ _ h
    have hcut := cut_has a b 58 ha
    rw [← e] at hcut
    rw [hcut]
    rw [e] at this
    simp at this
    constructor
    · show a.toArray.size ≤ _; simp; omega
    · show b.toArray.size ≤ _; simp; omega
  · rw [cut_not _ _ h]
    constructor
    · show s.data.toList.toArray.size ≤ _; simp
    · show ([] : List UInt8).toArray.size ≤ _; simp
set_option maxHeartbeats 8000000 in
theorem fparse_any (s : ByteArray) (hs : s.size ≤ 1000000) (w : World) (hT : Tabs w) (hM : Mx w) (hD : Day.Tab w.heap.size w) : Calls Tryz.prog 86 #[.string s] w fun e w' => e = .returned (fldV (parseF s)) ∧ Below w.heap.size w w' := by
  have hlt := hM.lt
  have HT := Lib.hid hT
  have HD := Lib.hid hD
  have HMx := Lib.hid hM
  obtain ⟨m, hm⟩ := hM
  have hm2 : (w.alloc (.cells #[.int .i64 0, .int .i64 0, .string ⟨#[]⟩] 92)).cell? ⟨0, 0, none⟩ = some (.int .i64 m) := by
    have hb0 : Below w.heap.size w (w.alloc (.cells #[.int .i64 0, .int .i64 0, .string ⟨#[]⟩] 92)) := (Below.refl _ _).alloc (Nat.le_refl _) _
    simp only [World.cell?] at hm ⊢
    rw [hb0.block 0 hlt]; exact hm
  have hC := Tryz.strings_Cut s ⟨#[58]⟩ m _ (by omega) hm2
  obtain ⟨z1, z2⟩ := cut_sz s
  have hr0 : parseF s = if cutO s = true then findF (cutH s) (cutV s) else noF := rfl
  rw [show (⟨#[58]⟩ : ByteArray).data.toList = [58] from rfl] at hC
  have hC2 : Calls Tryz.prog 97 #[.string s, .string ⟨#[58]⟩] (w.alloc (.cells #[.int .i64 0, .int .i64 0, .string ⟨#[]⟩] 92)) fun e w' => e = .returned (.tuple #[.string (cutH s), .string (cutV s), .bool (cutO s)]) ∧ ∃ n, w' = (w.alloc (.cells #[.int .i64 0, .int .i64 0, .string ⟨#[]⟩] 92)).drewN n := hC
  obtain ⟨h, hh⟩ : ∃ h, cutH s = h := ⟨_, rfl⟩
  obtain ⟨v, hv⟩ : ∃ v, cutV s = v := ⟨_, rfl⟩
  obtain ⟨o, ho⟩ : ∃ o, cutO s = o := ⟨_, rfl⟩
  rw [hh, hv, ho] at hC2 hr0
  rw [hv] at z2
  obtain ⟨r, hr⟩ : ∃ r, parseF s = r := ⟨_, rfl⟩
  rw [hr] at hr0 ⊢
  have HR := Lib.hid hr0
  have HC := Lib.hid hC2
  have HV := Lib.hid (show v.size ≤ 1000000 by omega)
  have HP0 := Lib.hid (show ∀ n, Pw w ((w.alloc (.cells #[.int .i64 0, .int .i64 0, .string ⟨#[]⟩] 92)).drewN n) from fun n => ⟨(Blk.new w _ _).drewN n, below_drewN ((Below.refl _ _).alloc (Nat.le_refl _) _) n⟩)
  clear hm2 hr0 hr hC hC2 hh hv ho z1 z2 hm hT hD hlt hs
  cases o with
  | false =>
    have H0 := Lib.hid (show r = noF from HR.out)
    go_enter Tryz.func86, Tryz.ntmps86
    go_wp2_with (go_at_call 97; (with_reducible refine (HC.out).mono ?_); rintro e w1 ⟨rfl, n1, hw⟩; subst hw; have HP1 := Lib.hid (HP0.out n1); have b0 := HP1.out.res.cell 0; have b1 := HP1.out.res.cell 1; have b2 := HP1.out.res.cell 2; have g0 := HP1.out.res.frozen 0; have g1 := HP1.out.res.frozen 1; have g2 := HP1.out.res.frozen 2)
    (try simp only [Exit.inBlock, Exit.then])
    rw [H0.out]
    exact parse_out (cs := #[.int .i64 0, .int .i64 0, .string ⟨#[]⟩]) (g := w.heap.size) rfl rfl rfl (put3 HP1.out.res _ _ _) ⟨rfl, bel3 HP1.out.bel (Nat.le_refl _) _ _ _⟩
  | true =>
    have HR2 := Lib.hid (show r = findF h v from HR.out)
    clear HR
    go_enter Tryz.func86, Tryz.ntmps86
    go_wp2_with (go_at_call 97; (with_reducible refine (HC.out).mono ?_); rintro e w1 ⟨rfl, n1, hw⟩; subst hw; have HP1 := Lib.hid (HP0.out n1))
    go_loopw [7] (fun i wr => ∃ k : Nat, 1 ≤ k ∧ k ≤ 7 ∧ i = .int .i64 (k : Int) ∧ noBefore h v (k : Int) ∧ Pw w wr) (fun i _ => 7 - (intOf i).toNat)
    case atStart => exact ⟨1, by decide, by decide, rfl, fun a b h1 h2 _ _ => by omega, HP1.out⟩
    case round =>
      obtain ⟨k, hk1, hk7, rfl, hN, hP⟩ := hrel
      have HN := Lib.hid hN
      have HP := Lib.hid hP
      clear hN hP
      by_cases hk : k ≤ 6
      · have hkI : (k : Int) ≤ 6 := by omega
        go_wp2
        (try simp only [show decide ((k : Int) ≤ 6) = true from decide_eq_true hkI])
        go_loopw [8] (fun i wr => ∃ l : Nat, l ≤ 4 ∧ i = .int .i64 (l : Int) ∧ noIn h v (k : Int) (l : Int) ∧ Pw w wr) (fun i _ => 4 - (intOf i).toNat)
        case atStart => exact ⟨0, by decide, rfl, fun b h1 h2 => by omega, HP.out⟩
        case round =>
          obtain ⟨l, hl4, rfl, hI, hP⟩ := hrel
          have HI := Lib.hid hI
          have HQ := Lib.hid hP
          clear hI hP
          by_cases hl : l ≤ 3
          · have hf0 : fits h v (k : Int) (l : Int) = ((h.toList == (headW (k : Int) (l : Int)).toList) && mayF (k : Int) (l : Int) v) := rfl
            have HONE := Lib.hid (fun (e : fits h v (k : Int) (l : Int) = true) => find_one (h := h) (v := v) (k := (k : Int)) (l := (l : Int)) (by omega) (by omega) (by omega) (by omega) e)
            have HNX := Lib.hid (fun (e : fits h v (k : Int) (l : Int) = false) => HI.out.next e)
            have HH := Lib.hid (fun w => head_any (k : Int) (l : Int) w)
            have HMA := Lib.hid (fun wr (hb : Below w.heap.size w wr) => fmay_any (k : Int) (l : Int) v HV.out wr (tabs_on HT.out hb (tabs_size HT.out)) (HMx.out.keep hb HMx.out.lt) (Day.tab_on HD.out hb))
            obtain ⟨A, hA⟩ : ∃ A, headW (k : Int) (l : Int) = A := ⟨_, rfl⟩
            obtain ⟨M, hMay⟩ : ∃ M, mayF (k : Int) (l : Int) v = M := ⟨_, rfl⟩
            rw [hA] at HH hf0
            rw [hMay] at HMA hf0
            clear hA hMay
            cases hq : (h.toList == A.toList) with
            | false =>
              rw [hq] at hf0
              have HF := Lib.hid (show fits h v (k : Int) (l : Int) = false from hf0)
              have HZ := Lib.hid (HQ.out.alloc (.cells #[.int .i64 (k : Int), .int .i64 (l : Int), .string v] 92))
              clear hf0
              go_wp2_with (go_at_call 98; (with_reducible refine (HH.out _).mono ?_); rintro e w2 ⟨rfl, hw⟩; replace hw := hw.symm; subst hw)
              go_roundw
              case rel => exact ⟨l + 1, by omega, by go_num, by have := HNX.out HF.out; simpa using this, HZ.out⟩
              case measure => simp [intOf]; omega
            | true =>
              rw [hq] at hf0
              cases M with
              | false =>
                have HF := Lib.hid (show fits h v (k : Int) (l : Int) = false from hf0)
                clear hf0
                go_wp2_with (first
                  | (go_at_call 98; (with_reducible refine (HH.out _).mono ?_); rintro e w2 ⟨rfl, hw⟩; replace hw := hw.symm; subst hw)
                  | (go_at_call 99; (with_reducible refine (HMA.out _ (HQ.out.alloc _).bel).mono ?_); rintro e w3 ⟨rfl, hb⟩; have HZ := Lib.hid ((HQ.out.alloc _).step hb); clear hb))
                go_roundw
                case rel => exact ⟨l + 1, by omega, by go_num, by have := HNX.out HF.out; simpa using this, HZ.out⟩
                case measure => simp [intOf]; omega
              | true =>
                have HF := Lib.hid (show r = ⟨(k : Int), (l : Int), v, 0⟩ by rw [HR2.out]; exact HONE.out hf0)
                clear hf0
                go_wp2_with (first
                  | (go_at_call 98; (with_reducible refine (HH.out _).mono ?_); rintro e w2 ⟨rfl, hw⟩; replace hw := hw.symm; subst hw)
                  | (go_at_call 99; (with_reducible refine (HMA.out _ (HQ.out.alloc _).bel).mono ?_); rintro e w3 ⟨rfl, hb⟩; have HZ := Lib.hid ((HQ.out.alloc _).step hb); have HY := Lib.hid ((Blk.new wr _ _).below hb (by simp)); have a0 := HY.out.cell 0; have a1 := HY.out.cell 1; have a2 := HY.out.cell 2; have b0 := HZ.out.res.cell 0; have b1 := HZ.out.res.cell 1; have b2 := HZ.out.res.cell 2; have g0 := HZ.out.res.frozen 0; have g1 := HZ.out.res.frozen 1; have g2 := HZ.out.res.frozen 2; clear hb))
                (try simp only [Exit.inBlock, Exit.then])
                rw [HF.out]
                exact parse_out (cs := #[.int .i64 (k : Int), .int .i64 (l : Int), .string v]) (g := w.heap.size) rfl rfl rfl (put3 HZ.out.res _ _ _) ⟨rfl, bel3 HZ.out.bel (Nat.le_refl _) _ _ _⟩
          · obtain rfl : l = 4 := by omega
            have HB := Lib.hid (HN.out.next HI.out)
            go_wp2
            go_roundw
            case rel => exact ⟨k + 1, by omega, by omega, by go_num, by have := HB.out; simpa using this, HQ.out⟩
            case measure => simp [intOf]; omega
      · obtain rfl : k = 7 := by omega
        have H0 := Lib.hid (show r = noF by rw [HR2.out]; exact find_none fun a b h1 h2 h3 h4 => HN.out a b h1 (by omega) h3 h4)
        have b0 := HP.out.res.cell 0
        have b1 := HP.out.res.cell 1
        have b2 := HP.out.res.cell 2
        have g0 := HP.out.res.frozen 0
        have g1 := HP.out.res.frozen 1
        have g2 := HP.out.res.frozen 2
        go_wp2
        (try simp only [Exit.inBlock, Exit.then])
        rw [H0.out]
        exact parse_out (cs := #[.int .i64 0, .int .i64 0, .string ⟨#[]⟩]) (g := w.heap.size) rfl rfl rfl (put3 HP.out.res _ _ _) ⟨rfl, bel3 HP.out.bel (Nat.le_refl _) _ _ _⟩
end Go.Proofs.YtphijnkiiokieaaGreatDoor
/- Lines of a contact: the contracts wherever the walk stands. -/
namespace Go.Proofs.YtphijnkiiokieaaGreatDoor
open Go.RowKit
open Go.Lib hiding intOf
set_option linter.unusedVariables false
set_option maxRecDepth 20000
attribute [local go_sem ↓] Go.wp_at_zero Go.wp_at_succ
structure Env (w : World) : Prop where
  t : Tabs w
  m : Mx w
  d : Day.Tab w.heap.size w
theorem Env.on {w v : World} (h : Env w) (hb : Below w.heap.size w v) : Env v := ⟨tabs_on h.t hb (tabs_size h.t), h.m.keep hb h.m.lt, Day.tab_on h.d hb⟩
theorem parse_on (s : ByteArray) (hs : s.size ≤ 1000000) (k l : Int) (v : ByteArray) (e : Int) (hr : parseF s = ⟨k, l, v, e⟩) (w : World) (h : Env w) : Calls Tryz.prog 86 #[.string s] w fun x w' => x = .returned (.tuple #[.agg #[.int .i64 k, .int .i64 l, .string v], .int .i64 e]) ∧ Below w.heap.size w w' := by
  have := fparse_any s hs w h.t h.m h.d
  rw [hr] at this
  exact this
theorem line_on (k l : Int) (v : ByteArray) (hs : v.size ≤ 1000000) (r : ByteArray) (hr : lineF k l v = r) (w : World) (h : Env w) : Calls Tryz.prog 117 #[.agg #[.int .i64 k, .int .i64 l, .string v]] w fun x w' => x = .returned (.string r) ∧ Below w.heap.size w w' := by
  have := fline_any k l v hs w h.t h.m h.d
  rw [hr] at this
  exact this
theorem may_on (k l : Int) (v : ByteArray) (hs : v.size ≤ 1000000) (r : Bool) (hr : mayF k l v = r) (w : World) (h : Env w) : Calls Tryz.prog 99 #[.agg #[.int .i64 k, .int .i64 l, .string v]] w fun x w' => x = .returned (.bool r) ∧ Below w.heap.size w w' := by
  have := fmay_any k l v hs w h.t h.m h.d
  rw [hr] at this
  exact this
theorem canon_on (k l : Int) (v : ByteArray) (hs : v.size ≤ 1000000) (k2 l2 : Int) (v2 : ByteArray) (e : Int) (hr : canonV k l v = .tuple #[.agg #[.int .i64 k2, .int .i64 l2, .string v2], .int .i64 e]) (w : World) (h : Env w) : Calls Tryz.prog 109 #[.agg #[.int .i64 k, .int .i64 l, .string v]] w fun x w' => x = .returned (.tuple #[.agg #[.int .i64 k2, .int .i64 l2, .string v2], .int .i64 e]) ∧ Below w.heap.size w w' := by
  have := fcanon_any k l v hs w h.t h.m h.d
  rw [hr] at this
  exact this
end Go.Proofs.YtphijnkiiokieaaGreatDoor
/- Bytes, one behind the other: their order. -/
namespace Go.Proofs.YtphijnkiiokieaaGreatDoor
open Go.RowKit
set_option linter.unusedVariables false
theorem bl_irr : ∀ l : List UInt8, Op.bytesLess l l = false
  | [] => rfl
  | a :: x => by simp [Op.bytesLess, bl_irr x]
theorem bl_asym : ∀ l m : List UInt8, Op.bytesLess l m = true → Op.bytesLess m l = false
  | _, [], h => by cases h' : ‹List UInt8› <;> simp_all [Op.bytesLess]
  | [], _ :: _, _ => by simp [Op.bytesLess]
  | a :: x, b :: y, h => by
    simp only [Op.bytesLess, Bool.or_eq_true, decide_eq_true_eq, Bool.and_eq_true, beq_iff_eq] at h
    simp only [Op.bytesLess, Bool.or_eq_false_iff, decide_eq_false_iff_not, Bool.and_eq_false_imp, beq_iff_eq]
    rcases h with h | ⟨rfl, h⟩
    · exact ⟨UInt8.lt_asymm h, fun e => by subst e; exact absurd h (UInt8.lt_irrefl _)⟩
    · exact ⟨UInt8.lt_irrefl _, fun _ => bl_asym x y h⟩
theorem bl_total : ∀ l m : List UInt8, l ≠ m → Op.bytesLess l m = true ∨ Op.bytesLess m l = true
  | [], [], h => absurd rfl h
  | [], _ :: _, _ => by simp [Op.bytesLess]
  | _ :: _, [], _ => by simp [Op.bytesLess]
  | a :: x, b :: y, h => by
    simp only [Op.bytesLess, Bool.or_eq_true, decide_eq_true_eq, Bool.and_eq_true, beq_iff_eq]
    by_cases e : a = b
    · subst e
      rcases bl_total x y (fun e => h (by rw [e])) with h1 | h1
      · exact .inl (.inr ⟨rfl, h1⟩)
      · exact .inr (.inr ⟨rfl, h1⟩)
    · rcases UInt8.lt_or_lt_of_ne e with h1 | h1
      · exact .inl (.inl h1)
      · exact .inr (.inl h1)
theorem bl_trans : ∀ l m n : List UInt8, Op.bytesLess l m = true → Op.bytesLess m n = true → Op.bytesLess l n = true
  | _, _, [], _, h => by simp [Op.bytesLess] at h
  | _, [], _ :: _, h, _ => by simp [Op.bytesLess] at h
  | [], _ :: _, _ :: _, _, _ => by simp [Op.bytesLess]
  | a :: x, b :: y, c :: z, h1, h2 => by
    simp only [Op.bytesLess, Bool.or_eq_true, decide_eq_true_eq, Bool.and_eq_true, beq_iff_eq] at h1 h2 ⊢
    rcases h1 with h1 | ⟨rfl, h1⟩
    · rcases h2 with h2 | ⟨rfl, h2⟩
      · exact .inl (UInt8.lt_trans h1 h2)
      · exact .inl h1
    · rcases h2 with h2 | ⟨rfl, h2⟩
      · exact .inl h2
      · exact .inr ⟨rfl, bl_trans x y z h1 h2⟩
end Go.Proofs.YtphijnkiiokieaaGreatDoor
/- Lines of a contact: which is ahead is a strict order. -/
namespace Go.Proofs.YtphijnkiiokieaaGreatDoor
open Go.RowKit
open Go.Lib hiding intOf
set_option linter.unusedVariables false
set_option maxRecDepth 100000
theorem lessF_irr (k l : Int) (v : ByteArray) : lessF k l v k l v = false := by
  unfold lessF; rw [if_pos rfl, if_pos rfl]; exact bl_irr _
theorem lessF_asym {k l : Int} {v : ByteArray} {k2 l2 : Int} {v2 : ByteArray} (h : lessF k l v k2 l2 v2 = true) : lessF k2 l2 v2 k l v = false := by
  unfold lessF at h ⊢
  by_cases h1 : k = k2
  · rw [if_pos h1] at h; rw [if_pos h1.symm]
    by_cases h2 : l = l2
    · rw [if_pos h2] at h; rw [if_pos h2.symm]; exact bl_asym _ _ h
    · rw [if_neg h2] at h; rw [if_neg (fun e => h2 e.symm)]
      have := of_decide_eq_true h
      exact decide_eq_false (by omega)
  · rw [if_neg h1] at h; rw [if_neg (fun e => h1 e.symm)]
    have := of_decide_eq_true h
    exact decide_eq_false (by omega)
theorem lessF_total {k l : Int} {v : ByteArray} {k2 l2 : Int} {v2 : ByteArray} (h : ¬ (k = k2 ∧ l = l2 ∧ v = v2)) : lessF k l v k2 l2 v2 = true ∨ lessF k2 l2 v2 k l v = true := by
  unfold lessF
  by_cases h1 : k = k2
  · rw [if_pos h1, if_pos h1.symm]
    by_cases h2 : l = l2
    · rw [if_pos h2, if_pos h2.symm]
      exact bl_total _ _ fun e => h ⟨h1, h2, bs_ext (by simpa only [ByteArray.toList_eq] using e)⟩
    · rw [if_neg h2, if_neg (fun e => h2 e.symm)]
      by_cases h3 : l < l2
      · exact .inl (decide_eq_true h3)
      · exact .inr (decide_eq_true (by omega))
  · rw [if_neg h1, if_neg (fun e => h1 e.symm)]
    by_cases h3 : k < k2
    · exact .inl (decide_eq_true h3)
    · exact .inr (decide_eq_true (by omega))
theorem lessF_trans {k l : Int} {v : ByteArray} {k2 l2 : Int} {v2 : ByteArray} {k3 l3 : Int} {v3 : ByteArray} (h : lessF k l v k2 l2 v2 = true) (g : lessF k2 l2 v2 k3 l3 v3 = true) : lessF k l v k3 l3 v3 = true := by
  unfold lessF at h g ⊢
  by_cases h1 : k = k2
  · subst h1
    rw [if_pos rfl] at h
    by_cases h3 : k = k3
    · subst h3
      rw [if_pos rfl] at g ⊢
      by_cases h2 : l = l2
      · subst h2
        rw [if_pos rfl] at h
        by_cases h4 : l = l3
        · subst h4
          rw [if_pos rfl] at g ⊢
          exact bl_trans _ _ _ h g
        · rw [if_neg h4] at g ⊢; exact g
      · rw [if_neg h2] at h
        have := of_decide_eq_true h
        by_cases h4 : l2 = l3
        · rw [if_neg (by omega)]; exact decide_eq_true (by omega)
        · rw [if_neg h4] at g
          have := of_decide_eq_true g
          rw [if_neg (by omega)]; exact decide_eq_true (by omega)
    · rw [if_neg h3] at g ⊢; exact g
  · rw [if_neg h1] at h
    have := of_decide_eq_true h
    by_cases h3 : k2 = k3
    · rw [if_neg (by omega)]; exact decide_eq_true (by omega)
    · rw [if_neg h3] at g
      have := of_decide_eq_true g
      rw [if_neg (by omega)]; exact decide_eq_true (by omega)
theorem lessF_kind {k l : Int} {v : ByteArray} {k2 l2 : Int} {v2 : ByteArray} (h : k ≠ k2) : lessF k l v k2 l2 v2 = decide (k < k2) := by
  unfold lessF; rw [if_neg h]
theorem less_on (k l : Int) (v : ByteArray) (k2 l2 : Int) (v2 : ByteArray) (r : Bool) (hr : lessF k l v k2 l2 v2 = r) (w : World) : Calls Tryz.prog 131 #[.agg #[.int .i64 k, .int .i64 l, .string v], .agg #[.int .i64 k2, .int .i64 l2, .string v2]] w fun e w' => e = .returned (.bool r) ∧ Below w.heap.size w w' := by
  have := less_any k l v k2 l2 v2 w
  rw [hr] at this
  exact this
end Go.Proofs.YtphijnkiiokieaaGreatDoor
/- card: rising lists of fields; what sorting and Compact make. -/
namespace Go.Proofs.YtphijnkiiokieaaGreatDoor
open Go.RowKit
open Go.Lib hiding intOf
open Go.Sort
set_option linter.unusedVariables false
set_option linter.unusedSimpArgs false
set_option maxRecDepth 100000
instance decBA : DecidableEq ByteArray := fun a b => decidable_of_iff (a.data = b.data) ⟨fun h => by cases a; cases b; exact congrArg _ h, fun h => congrArg _ h⟩
def ltF (f g : F3) : Bool := lessF f.1 f.2.1 f.2.2 g.1 g.2.1 g.2.2
theorem ltF_irr (f : F3) : ltF f f = false := lessF_irr _ _ _
theorem ltF_asym {f g : F3} (h : ltF f g = true) : ltF g f = false := lessF_asym h
theorem ltF_trans {f g h : F3} (a : ltF f g = true) (b : ltF g h = true) : ltF f h = true := lessF_trans a b
theorem ltF_total {f g : F3} (h : f ≠ g) : ltF f g = true ∨ ltF g f = true := by
  refine lessF_total ?_
  rintro ⟨h1, h2, h3⟩
  exact h (Prod.ext h1 (Prod.ext h2 h3))
theorem ltF_eq {f g : F3} (a : ltF f g = false) (b : ltF g f = false) : f = g := by
  by_cases h : f = g
  · exact h
  · rcases ltF_total h with c | c
    · rw [a] at c; cases c
    · rw [b] at c; cases c
def cfF (f g : F3) : Int := ordF f.1 f.2.1 f.2.2 g.1 g.2.1 g.2.2
theorem ltOf_cfF : Go.Proofs.ltOf cfF = ltF := by
  funext f g
  show decide (ordF f.1 f.2.1 f.2.2 g.1 g.2.1 g.2.2 < 0) = lessF f.1 f.2.1 f.2.2 g.1 g.2.1 g.2.2
  unfold ordF
  split
  · rename_i h; rw [h]; rfl
  · rename_i h
    have h0 : lessF f.1 f.2.1 f.2.2 g.1 g.2.1 g.2.2 = false := by simpa using h
    rw [h0]
    split <;> rfl
theorem swoF : SWO ltF where
  irrefl := ltF_irr
  trans := fun _ _ _ => ltF_trans
  ntrans := fun x y z h1 h2 => by
    cases h3 : ltF x z with
    | false => rfl
    | true =>
      by_cases e : x = y
      · subst e; rw [h3] at h2; cases h2
      · rcases ltF_total e with c | c
        · rw [h1] at c; cases c
        · have := ltF_trans c h3
          rw [h2] at this; cases this
abbrev Str (l : List F3) : Prop := l.Pairwise fun f g => ltF f g = true
theorem str_uniq : ∀ {l m : List F3}, Str l → Str m → (∀ x, x ∈ l ↔ x ∈ m) → l = m
  | [], [], _, _, _ => rfl
  | [], b :: m, _, _, h => by have := (h b).2 (List.mem_cons_self); cases this
  | a :: l, [], _, _, h => by have := (h a).1 (List.mem_cons_self); cases this
  | a :: l, b :: m, h1, h2, h => by
    obtain ⟨ha, hl⟩ := List.pairwise_cons.1 h1
    obtain ⟨hb, hm⟩ := List.pairwise_cons.1 h2
    have e : a = b := by
      rcases List.mem_cons.1 ((h a).1 List.mem_cons_self) with e | h3
      · exact e
      · rcases List.mem_cons.1 ((h b).2 List.mem_cons_self) with e | h4
        · exact e.symm
        · have h5 := ltF_asym (hb _ h3)
          rw [ha _ h4] at h5; cases h5
    subst e
    congr 1
    refine str_uniq hl hm fun x => ⟨fun hx => ?_, fun hx => ?_⟩
    · rcases List.mem_cons.1 ((h x).1 (List.mem_cons_of_mem _ hx)) with e | h3
      · subst e; have := ha _ hx; rw [ltF_irr] at this; cases this
      · exact h3
    · rcases List.mem_cons.1 ((h x).2 (List.mem_cons_of_mem _ hx)) with e | h3
      · subst e; have := hb _ hx; rw [ltF_irr] at this; cases this
      · exact h3
/-- One more, in its place. -/
def hasF (f : F3) (l : List F3) : Bool := l.any fun g => decide (g = f)
theorem hasF_iff (f : F3) (l : List F3) : hasF f l = true ↔ f ∈ l := by
  unfold hasF
  rw [List.any_eq_true]
  constructor
  · rintro ⟨x, h1, h2⟩
    exact of_decide_eq_true h2 ▸ h1
  · intro h
    exact ⟨f, h, decide_eq_true rfl⟩
def insF (f : F3) (l : List F3) : List F3 := if hasF f l = true then l else l.filter (fun g => ltF g f) ++ f :: l.filter (fun g => !ltF g f)
/-- These, rising, each once. -/
def rise (l : List F3) : List F3 := l.foldl (fun acc f => insF f acc) []
theorem insF_mem (f : F3) (l : List F3) (x : F3) : x ∈ insF f l ↔ x ∈ l ∨ x = f := by
  unfold insF
  split
  · rename_i h
    rw [hasF_iff] at h
    constructor
    · exact Or.inl
    · rintro (h1 | rfl)
      · exact h1
      · exact h
  · simp only [List.mem_append, List.mem_cons, List.mem_filter]
    constructor
    · rintro (⟨h1, _⟩ | rfl | ⟨h1, _⟩)
      · exact .inl h1
      · exact .inr rfl
      · exact .inl h1
    · rintro (h1 | rfl)
      · cases h2 : ltF x f
        · exact .inr (.inr ⟨h1, rfl⟩)
        · exact .inl ⟨h1, rfl⟩
      · exact .inr (.inl rfl)
theorem insF_str (f : F3) {l : List F3} (h : Str l) : Str (insF f l) := by
  unfold insF
  split
  · exact h
  · rename_i hn
    rw [hasF_iff] at hn
    refine List.pairwise_append.2 ⟨h.filter _, List.pairwise_cons.2 ⟨fun x hx => ?_, h.filter _⟩, fun x hx y hy => ?_⟩
    · obtain ⟨h1, h2⟩ := List.mem_filter.1 hx
      have h3 : ltF x f = false := by simpa using h2
      have h4 : x ≠ f := fun e => hn (e ▸ h1)
      rcases ltF_total h4 with c | c
      · rw [h3] at c; cases c
      · exact c
    · have h1 := (List.mem_filter.1 hx).2
      rcases List.mem_cons.1 hy with rfl | h2
      · exact h1
      · obtain ⟨h3, h4⟩ := List.mem_filter.1 h2
        have h5 : ltF y f = false := by simpa using h4
        have h6 : y ≠ f := fun e => hn (e ▸ h3)
        rcases ltF_total h6 with c | c
        · rw [h5] at c; cases c
        · exact ltF_trans h1 c
theorem rise_snoc (l : List F3) (f : F3) : rise (l ++ [f]) = insF f (rise l) := by unfold rise; rw [List.foldl_append]; rfl
theorem foldIns_str : ∀ (l acc : List F3), Str acc → Str (l.foldl (fun acc f => insF f acc) acc)
  | [], _, h => h
  | f :: l, acc, h => foldIns_str l _ (insF_str f h)
theorem foldIns_mem : ∀ (l acc : List F3) (x : F3), x ∈ l.foldl (fun acc f => insF f acc) acc ↔ x ∈ acc ∨ x ∈ l
  | [], acc, x => by simp
  | f :: l, acc, x => by
    rw [List.foldl_cons, foldIns_mem l, insF_mem, List.mem_cons, or_assoc]
theorem rise_str (l : List F3) : Str (rise l) := foldIns_str l [] List.Pairwise.nil
theorem rise_mem (l : List F3) (x : F3) : x ∈ rise l ↔ x ∈ l := by unfold rise; rw [foldIns_mem]; simp
theorem rise_of {l m : List F3} (hm : Str m) (h : ∀ x, x ∈ m ↔ x ∈ l) : rise l = m := str_uniq (rise_str l) hm fun x => by rw [rise_mem, h]
theorem rise_self {l : List F3} (h : Str l) : rise l = l := rise_of h fun _ => Iff.rfl
theorem str_nodup {l : List F3} (h : Str l) : l.Nodup := h.imp fun {a b} hl e => by subst e; rw [ltF_irr] at hl; cases hl
theorem rise_length_le : ∀ l : List F3, (rise l).length ≤ l.length := by
  have insl : ∀ (f : F3) (l : List F3), (insF f l).length ≤ l.length + 1 := fun f l => by
    unfold insF
    split
    · omega
    · rename_i hx
      clear hx
      have h1 : ((l.filter (fun g => ltF g f)).length + (l.filter (fun g => !ltF g f)).length) = l.length := by
        induction l with
        | nil => rfl
        | cons a l ih =>
          cases h : ltF a f <;> simp [List.filter_cons, h] <;> omega
      rw [List.length_append, List.length_cons]; omega
  have : ∀ (l acc : List F3), (l.foldl (fun acc f => insF f acc) acc).length ≤ acc.length + l.length := by
    intro l
    induction l with
    | nil => intro acc; simp
    | cons f l ih => intro acc; have := ih (insF f acc); have := insl f acc; rw [List.foldl_cons, List.length_cons]; omega
  intro l
  have := this l []
  unfold rise
  simpa using this
instance : Inhabited F3 := ⟨(0, 0, ⟨#[]⟩)⟩
theorem compact_str {d : Array F3} (h : SortedIn ltF 0 d.size d) : Str (compactUpTo d d.size) := by
  have key : ∀ m, m ≤ d.size → Str (compactUpTo d m) ∧ ∀ x ∈ compactUpTo d m, ∃ i, i < m ∧ d[i]! = x := by
    intro m
    induction m with
    | zero => intro _; exact ⟨List.Pairwise.nil, fun x hx => by cases hx⟩
    | succ m ih =>
      intro hm
      obtain ⟨ih1, ih2⟩ := ih (by omega)
      rw [compactUpTo_succ]
      cases hk : keeps d m with
      | false =>
        rw [if_neg (by simp), List.append_nil]
        exact ⟨ih1, fun x hx => by obtain ⟨i, hi, e⟩ := ih2 x hx; exact ⟨i, by omega, e⟩⟩
      | true =>
        rw [if_pos rfl]
        refine ⟨List.pairwise_append.2 ⟨ih1, List.pairwise_singleton _ _, fun x hx y hy => ?_⟩, fun x hx => ?_⟩
        · obtain rfl := List.mem_singleton.1 hy
          obtain ⟨i, hi, rfl⟩ := ih2 x hx
          have hk2 : m = 0 ∨ d[m]! ≠ d[m - 1]! := by simpa [keeps] using hk
          have hne : d[m]! ≠ d[m - 1]! := by
            rcases hk2 with e | e
            · omega
            · exact e
          have h1 : ltF d[m]! d[m - 1]! = false := h (m - 1) m (by omega) (by omega) (by omega)
          have h2 : ltF d[m - 1]! d[m]! = true := by
            rcases ltF_total hne with c | c
            · rw [h1] at c; cases c
            · exact c
          by_cases e : i = m - 1
          · rw [e]; exact h2
          · have h3 : ltF d[m - 1]! d[i]! = false := h i (m - 1) (by omega) (by omega) (by omega)
            cases h4 : ltF d[i]! d[m]! with
            | true => rfl
            | false =>
              by_cases h5 : d[i]! = d[m - 1]!
              · rw [h5, h2] at h4; cases h4
              · rcases ltF_total h5 with c | c
                · have := ltF_trans c h2; rw [h4] at this; cases this
                · rw [h3] at c; cases c
        · rcases List.mem_append.1 hx with h1 | h1
          · obtain ⟨i, hi, e⟩ := ih2 x h1; exact ⟨i, by omega, e⟩
          · obtain rfl := List.mem_singleton.1 h1
            exact ⟨m, by omega, rfl⟩
  exact (key _ (Nat.le_refl _)).1
theorem compact_mem (d : Array F3) (x : F3) : x ∈ compactUpTo d d.size ↔ x ∈ d.toList := by
  have key : ∀ m, m ≤ d.size → (x ∈ compactUpTo d m ↔ ∃ i, i < m ∧ d[i]! = x) := by
    intro m
    induction m with
    | zero => intro _; simp [compactUpTo]
    | succ m ih =>
      intro hm
      have ih := ih (by omega)
      rw [compactUpTo_succ, List.mem_append, ih]
      constructor
      · rintro (⟨i, hi, e⟩ | h)
        · exact ⟨i, by omega, e⟩
        · cases hk : keeps d m with
          | false => rw [hk] at h; simp at h
          | true => rw [hk, if_pos rfl] at h; obtain rfl := List.mem_singleton.1 h; exact ⟨m, by omega, rfl⟩
      · rintro ⟨i, hi, e⟩
        by_cases him : i = m
        · subst him
          cases hk : keeps d i with
          | true => right; rw [if_pos rfl, e]; exact List.mem_singleton_self _
          | false =>
            left
            have hk2 : ¬ (i = 0 ∨ d[i]! ≠ d[i - 1]!) := by simpa [keeps] using hk
            have h1 : i ≠ 0 := fun h => hk2 (.inl h)
            have h2 : d[i]! = d[i - 1]! := by
              by_cases h : d[i]! = d[i - 1]!
              · exact h
              · exact absurd (.inr h) hk2
            exact ⟨i - 1, by omega, by rw [← h2]; exact e⟩
        · exact .inl ⟨i, by omega, e⟩
  rw [key _ (Nat.le_refl _)]
  constructor
  · rintro ⟨i, hi, rfl⟩
    rw [getElem!_pos d i hi]
    exact Array.getElem_mem_toList hi
  · intro h
    obtain ⟨i, hi, e⟩ := List.mem_iff_getElem.1 h
    have hi2 : i < d.size := by simpa using hi
    exact ⟨i, hi2, by rw [getElem!_pos d i hi2]; simpa using e⟩
/-- Sorted, then each once: the rising list. -/
theorem sorted_compact {d d' : Array F3} (hp : PermIn 0 d.size d d') (hs : SortedIn ltF 0 d.size d') : compactUpTo d' d'.size = rise d.toList := by
  obtain ⟨hsz, _, hperm⟩ := hp
  symm
  refine rise_of (compact_str (hsz ▸ hs)) fun x => ?_
  rw [compact_mem]
  have e1 : d'.extract 0 d.size = d' := by rw [← hsz]; exact Array.extract_size
  rw [e1, Array.extract_size] at hperm
  exact hperm.mem_iff
end Go.Proofs.YtphijnkiiokieaaGreatDoor
namespace Go.Proofs.YtphijnkiiokieaaGreatDoor
open Go.RowKit
open Go.Lib hiding intOf
set_option linter.unusedVariables false
set_option linter.unusedSimpArgs false
set_option maxRecDepth 100000
/-- Draws and blocks of its own, nothing else. -/
def GrN (w w' : World) : Prop := ∃ q os, w' = Sort.grow (w.drewN q) os
theorem GrN.refl (w : World) : GrN w w := ⟨0, #[], by simp [Sort.grow, World.drewN]⟩
theorem GrN.trans {a b c : World} (h : GrN a b) (k : GrN b c) : GrN a c := by
  obtain ⟨q, os, rfl⟩ := h
  obtain ⟨q2, os2, rfl⟩ := k
  exact ⟨q + q2, os ++ os2, by simp [Sort.grow, World.drewN, Array.append_assoc, Nat.add_assoc]⟩
theorem GrN.alloc {a b : World} (h : GrN a b) (o : Obj) : GrN a (b.alloc o) := h.trans ⟨0, #[o], by rw [Sort.alloc_eq_grow]; simp [Sort.grow, World.drewN]⟩
theorem GrN.below {a b : World} (h : GrN a b) : Below a.heap.size a b := by
  obtain ⟨q, os, rfl⟩ := h
  refine ⟨rfl, rfl, rfl, ?_, fun k hk => ?_⟩
  · simp [Sort.grow, World.drewN]
  · simp only [Sort.grow, World.drewN]
    rw [Array.getElem?_append_left hk]
theorem two_boxes_g (w : World) (t : TypeId) (a b : Array Value) : GrN w ((w.alloc (.cells a t)).alloc (.cells b t)) := ((GrN.refl w).alloc _).alloc _
set_option maxHeartbeats 2000000 in
theorem less_grn (k l : Int) (v : ByteArray) (k2 l2 : Int) (v2 : ByteArray) (w : World) : Calls Tryz.prog 131 #[fieldV k l v, fieldV k2 l2 v2] w fun e w' => e = .returned (.bool (lessF k l v k2 l2 v2)) ∧ GrN w w' := by
  obtain ⟨r, hr⟩ : ∃ r, lessF k l v k2 l2 v2 = r := ⟨_, rfl⟩
  rw [hr]
  have HR := Lib.hid (show r = if k = k2 then (if l = l2 then Op.bytesLess v.toList v2.toList else decide (l < l2)) else decide (k < k2) by rw [← hr]; rfl)
  clear hr
  by_cases h : k = k2
  · have d : (k != k2) = false := by simpa using h
    by_cases g : l = l2
    · have d2 : (l != l2) = false := by simpa using g
      have H0 := Lib.hid (show r = Op.bytesLess v.toList v2.toList by rw [HR.out, if_pos h, if_pos g])
      go_enter Tryz.func131, Tryz.ntmps131
      go_wp2
      go_ret
      exact ⟨by rw [H0.out]; rfl, two_boxes_g _ _ _ _⟩
    · have d2 : (l != l2) = true := by simpa using g
      have H0 := Lib.hid (show r = decide (l < l2) by rw [HR.out, if_pos h, if_neg g])
      go_enter Tryz.func131, Tryz.ntmps131
      go_wp2
      go_ret
      exact ⟨by rw [H0.out]; rfl, two_boxes_g _ _ _ _⟩
  · have d : (k != k2) = true := by simpa using h
    have H0 := Lib.hid (show r = decide (k < k2) by rw [HR.out, if_neg h])
    go_enter Tryz.func131, Tryz.ntmps131
    go_wp2
    go_ret
    exact ⟨by rw [H0.out]; rfl, two_boxes_g _ _ _ _⟩
set_option maxHeartbeats 2000000 in
theorem order_grn (k l : Int) (v : ByteArray) (k2 l2 : Int) (v2 : ByteArray) (w : World) : Calls Tryz.prog 113 #[fieldV k l v, fieldV k2 l2 v2] w fun e w' => e = .returned (.int .i64 (ordF k l v k2 l2 v2)) ∧ GrN w w' := by
  obtain ⟨wA, hwA⟩ : ∃ wA, (w.alloc (.cells #[.int .i64 k, .int .i64 l, .string v] 92)).alloc (.cells #[.int .i64 k2, .int .i64 l2, .string v2] 92) = wA := ⟨_, rfl⟩
  obtain ⟨n, hn⟩ : ∃ n, w.heap.size = n := ⟨_, rfl⟩
  have HB1 := Lib.hid (show Blk wA n 92 #[.int .i64 k, .int .i64 l, .string v] from hwA ▸ hn ▸ (Blk.new w _ _).alloc _)
  have HB2 := Lib.hid (show Blk wA (n + 1) 92 #[.int .i64 k2, .int .i64 l2, .string v2] from by
    have := Blk.new (w.alloc (.cells #[.int .i64 k, .int .i64 l, .string v] 92)) 92 #[.int .i64 k2, .int .i64 l2, .string v2]
    rw [World.size_alloc, hwA, hn] at this
    exact this)
  have HW := Lib.hid (show GrN w wA from hwA ▸ two_boxes_g w 92 _ _)
  have HWb := Lib.hid (show Below n w wA from hn ▸ HW.out.below)
  have HN := Lib.hid hn
  have a0 : wA.cell? ⟨n, 0, none⟩ = some (.int .i64 k) := HB1.out.cell 0
  have a1 : wA.cell? ⟨n, 1, none⟩ = some (.int .i64 l) := HB1.out.cell 1
  have a2 : wA.cell? ⟨n, 2, none⟩ = some (.string v) := HB1.out.cell 2
  have b0 : wA.cell? ⟨n + 1, 0, none⟩ = some (.int .i64 k2) := HB2.out.cell 0
  have b1 : wA.cell? ⟨n + 1, 1, none⟩ = some (.int .i64 l2) := HB2.out.cell 1
  have b2 : wA.cell? ⟨n + 1, 2, none⟩ = some (.string v2) := HB2.out.cell 2
  obtain ⟨r1, hr1⟩ : ∃ r, lessF k l v k2 l2 v2 = r := ⟨_, rfl⟩
  obtain ⟨r2, hr2⟩ : ∃ r, lessF k2 l2 v2 k l v = r := ⟨_, rfl⟩
  have HO := Lib.hid (show ordF k l v k2 l2 v2 = if r1 = true then -1 else if r2 = true then 1 else 0 from by unfold ordF; rw [hr1, hr2])
  have HL1 := Lib.hid (less_grn k l v k2 l2 v2 wA)
  have HL2 := Lib.hid (fun W => less_grn k2 l2 v2 k l v W)
  rw [hr1] at HL1
  rw [hr2] at HL2
  rw [HO.out]
  clear hr1 hr2
  go_enter Tryz.func113, Tryz.ntmps113
  go_wp2_with fail
  refine HL1.out.mono ?_
  rintro _ w1 ⟨rfl, hg⟩
  have hb := hg.below
  have HX1 := Lib.hid (HB1.out.below hb HB1.out.lt)
  have HX2 := Lib.hid (HB2.out.below hb HB2.out.lt)
  have HW1 := Lib.hid (HW.out.trans hg)
  clear hb hg a0 a1 a2 b0 b1 b2 hwA
  cases r1 with
  | true =>
    go_wp2
    go_ret
    exact ⟨rfl, HW1.out⟩
  | false =>
    have a0 : w1.cell? ⟨n, 0, none⟩ = some (.int .i64 k) := HX1.out.cell 0
    have a1 : w1.cell? ⟨n, 1, none⟩ = some (.int .i64 l) := HX1.out.cell 1
    have a2 : w1.cell? ⟨n, 2, none⟩ = some (.string v) := HX1.out.cell 2
    have b0 : w1.cell? ⟨n + 1, 0, none⟩ = some (.int .i64 k2) := HX2.out.cell 0
    have b1 : w1.cell? ⟨n + 1, 1, none⟩ = some (.int .i64 l2) := HX2.out.cell 1
    have b2 : w1.cell? ⟨n + 1, 2, none⟩ = some (.string v2) := HX2.out.cell 2
    go_wp2_with fail
    refine (HL2.out w1).mono ?_
    rintro _ w2 ⟨rfl, hg⟩
    have HW2 := Lib.hid (HW1.out.trans hg)
    clear hg
    cases r2 <;> (
      go_wp2
      go_ret
      exact ⟨by first | rfl | simp, HW2.out⟩)
end Go.Proofs.YtphijnkiiokieaaGreatDoor
