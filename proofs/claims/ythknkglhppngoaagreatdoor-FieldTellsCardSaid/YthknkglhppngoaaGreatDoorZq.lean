/- What the listed variables give the walks: utf8's two tables, the table of powers of ten; and that the program's own start meets the condition. -/
import Derived.Test.YthknkglhppngoaaGreatDoorZp
import Derived.Test.YthknkglhppngoaaGreatDoorZh
import Derived.Deep.QuietTactic
import Derived.BigQuiet
import Derived.Deep.RegionHeld3
import Derived.Deep.DrawnRows
import Derived.Test.YthknkglhppngoaaGreatDoorZd
import Derived.Handed
import Derived.HandedShaped
import Derived.Shelf.Vars
import Derived.KernelRfl
import Derived.Test.YthknkglhppngoaaGreatDoorRows
import Derived.LaidMore
import Derived.PinnedBridge
import Derived.Lay
import Derived.Lib.LaidIn
import Derived.Lib.LaidTab
import Derived.Lib.LaidU8T
import Derived.MakeChecks
import Derived.Stop.Joined
import Derived.Stop.LaidErr
/- Lines of a contact: the document's own ParseField. -/
namespace Go.Proofs.YthknkglhppngoaaGreatDoor
open Go.RowKit
open Go.Lib hiding intOf
set_option linter.unusedVariables false
set_option maxRecDepth 20000
attribute [local go_sem ↓] Go.wp_at_zero Go.wp_at_succ
def lblS (l : Nat) : ByteArray := if l = 0 then ⟨#[]⟩ else if l = 1 then ⟨#[59, 104, 111, 109, 101]⟩ else if l = 2 then ⟨#[59, 119, 111, 114, 107]⟩ else ⟨#[59, 99, 101, 108, 108]⟩
def wrdS (k : Nat) : ByteArray := if k = 1 then ⟨#[110, 97, 109, 101]⟩ else if k = 2 then ⟨#[111, 114, 103]⟩ else if k = 3 then ⟨#[116, 101, 108]⟩ else if k = 4 then ⟨#[109, 97, 105, 108]⟩ else if k = 5 then ⟨#[100, 97, 121]⟩ else if k = 6 then ⟨#[110, 111, 116, 101]⟩ else ⟨#[]⟩
abbrev wordCs : Array Value := #[.string ⟨#[]⟩, .string ⟨#[110, 97, 109, 101]⟩, .string ⟨#[111, 114, 103]⟩, .string ⟨#[116, 101, 108]⟩, .string ⟨#[109, 97, 105, 108]⟩, .string ⟨#[100, 97, 121]⟩, .string ⟨#[110, 111, 116, 101]⟩]
abbrev labelCs : Array Value := #[.string ⟨#[]⟩, .string ⟨#[59, 104, 111, 109, 101]⟩, .string ⟨#[59, 119, 111, 114, 107]⟩, .string ⟨#[59, 99, 101, 108, 108]⟩]
theorem word_at : ∀ k : Nat, k < 7 → wordCs[k]? = some (.string (wrdS k)) := by
  intro k h
  rcases (show k = 0 ∨ k = 1 ∨ k = 2 ∨ k = 3 ∨ k = 4 ∨ k = 5 ∨ k = 6 by omega) with rfl | rfl | rfl | rfl | rfl | rfl | rfl <;> rfl
theorem label_at : ∀ l : Nat, l < 4 → labelCs[l]? = some (.string (lblS l)) := by
  intro l h
  rcases (show l = 0 ∨ l = 1 ∨ l = 2 ∨ l = 3 by omega) with rfl | rfl | rfl | rfl <;> rfl
theorem hd_eq : ∀ k l : Nat, 1 ≤ k → k ≤ 6 → l ≤ 3 → (wrdS k ++ lblS l).data.toList = (headW (k : Int) (l : Int)).data.toList := by
  intro k l h1 h2 h3
  rcases (show k = 1 ∨ k = 2 ∨ k = 3 ∨ k = 4 ∨ k = 5 ∨ k = 6 by omega) with rfl | rfl | rfl | rfl | rfl | rfl <;> rcases (show l = 0 ∨ l = 1 ∨ l = 2 ∨ l = 3 by omega) with rfl | rfl | rfl | rfl <;> decide +kernel
theorem wl_size (k l : Nat) : (wrdS k).size ≤ 4 ∧ (lblS l).size ≤ 5 := by
  constructor
  · unfold wrdS
    repeat' split
    all_goals decide
  · unfold lblS
    repeat' split
    all_goals decide
/-- A head with its colon, ahead of a text: what is cut off is that head, and what stands behind. -/
theorem pre_cut {s H : ByteArray} {k l : Nat} (h1 : 1 ≤ k) (h2 : k ≤ 6) (h3 : l ≤ 3) (hH : H = (wrdS k ++ lblS l) ++ ⟨#[58]⟩) (hz : H.size ≤ s.size) (he : s.extract 0 H.size = H) :
    cutO s = true ∧ cutH s = headW (k : Int) (l : Int) ∧ cutV s = s.extract H.size s.size := by
  have e1 : s.data.toList = H.data.toList ++ (s.extract H.size s.size).data.toList := by
    have := congrArg (fun x : ByteArray => x.data.toList) he
    simp only [ByteArray.data_extract, Array.toList_extract] at this ⊢
    have hl : s.data.toList.length = s.size := by simp
    have e2 : s.data.toList.take H.size = H.data.toList := by
      rw [← this]; simp
    rw [← e2]
    simp [List.take_of_length_le]
  have e3 : s.data.toList = (headW (k : Int) (l : Int)).data.toList ++ 58 :: (s.extract H.size s.size).data.toList := by
    rw [e1]
    have : H.data.toList = (headW (k : Int) (l : Int)).data.toList ++ [58] := by
      rw [hH, app_list, hd_eq k l h1 h2 h3]
    rw [this]; simp
  have hcut := cut_has (headW (k : Int) (l : Int)).data.toList (s.extract H.size s.size).data.toList 58 (head_colon (by omega) (by omega) (by omega) (by omega))
  rw [← e3] at hcut
  unfold cutO cutH cutV
  rw [hcut]
  exact ⟨rfl, rfl, rfl⟩
theorem cut_pre {s H : ByteArray} {k l : Nat} (h1 : 1 ≤ k) (h2 : k ≤ 6) (h3 : l ≤ 3) (hH : H = (wrdS k ++ lblS l) ++ ⟨#[58]⟩) (ho : cutO s = true) (hh : cutH s = headW (k : Int) (l : Int)) : H.size ≤ s.size ∧ s.extract 0 H.size = H := by
  have hHl : H.data.toList = (headW (k : Int) (l : Int)).data.toList ++ [58] := by rw [hH, app_list, hd_eq k l h1 h2 h3]
  by_cases hc : (58 : UInt8) ∈ s.data.toList
  · obtain ⟨a, b, e, ha⟩ := first_at _ _ hc
    have hcut := cut_has a b 58 ha
    rw [← e] at hcut
    have h4 : a = (headW (k : Int) (l : Int)).data.toList := by
      rw [← hh]; unfold cutH; rw [hcut]
    have e2 : s.data.toList = H.data.toList ++ b := by rw [e, hHl, h4]; simp
    have hl : s.data.toList.length = s.size := by simp
    have hl2 : H.data.toList.length = H.size := by simp
    refine ⟨by rw [← hl, ← hl2, e2]; simp, bs_ext ?_⟩
    simp only [ByteArray.data_extract, Array.toList_extract]
    rw [e2, ← hl2]; simp
  · unfold cutO at ho
    rw [cut_not _ _ hc] at ho
    cases ho
def fitsP (s : ByteArray) (k l : Int) : Bool := cutO s && fits (cutH s) (cutV s) k l
theorem parse_fit {s : ByteArray} {k l : Int} (h1 : 1 ≤ k) (h2 : k ≤ 6) (h3 : 0 ≤ l) (h4 : l ≤ 3) (hf : fitsP s k l = true) : parseF s = ⟨k, l, cutV s, 0⟩ := by
  unfold fitsP at hf
  rw [Bool.and_eq_true] at hf
  unfold parseF
  rw [if_pos hf.1]
  exact find_one h1 h2 h3 h4 hf.2
theorem parse_not {s : ByteArray} (hn : ∀ k l : Int, 1 ≤ k → k ≤ 6 → 0 ≤ l → l ≤ 3 → fitsP s k l = false) : parseF s = noF := by
  unfold parseF
  by_cases ho : cutO s = true
  · rw [if_pos ho]
    refine find_none fun k l h1 h2 h3 h4 => ?_
    have := hn k l h1 h2 h3 h4
    unfold fitsP at this
    rw [ho] at this
    exact this
  · rw [if_neg ho]
def noBeforeP (s : ByteArray) (k : Int) : Prop := ∀ a b : Int, 1 ≤ a → a < k → 0 ≤ b → b ≤ 3 → fitsP s a b = false
def noInP (s : ByteArray) (k l : Int) : Prop := ∀ b : Int, 0 ≤ b → b < l → fitsP s k b = false
theorem noInP.next {s : ByteArray} {k l : Int} (a : noInP s k l) (b : fitsP s k l = false) : noInP s k (l + 1) := fun x h1 h2 => by
  by_cases e : x = l
  · rw [e]; exact b
  · exact a x h1 (by omega)
theorem noBeforeP.next {s : ByteArray} {k : Int} (a : noBeforeP s k) (b : noInP s k 4) : noBeforeP s (k + 1) := fun x y h1 h2 h3 h4 => by
  by_cases e : x = k
  · rw [e]; exact b y h3 (by omega)
  · exact a x y h1 (by omega) h3 h4
/-- One round: no such head; or the head, and what May says. -/
theorem fits_no {s H : ByteArray} {k l : Nat} (h1 : 1 ≤ k) (h2 : k ≤ 6) (h3 : l ≤ 3) (hH : H = (wrdS k ++ lblS l) ++ ⟨#[58]⟩) (hn : ¬ (H.size ≤ s.size ∧ s.extract 0 H.size = H)) : fitsP s (k : Int) (l : Int) = false := by
  cases hf : fitsP s (k : Int) (l : Int) with
  | false => rfl
  | true =>
    unfold fitsP at hf
    rw [Bool.and_eq_true] at hf
    exact absurd (cut_pre h1 h2 h3 hH hf.1 (fits_head hf.2).1) hn
theorem fits_yes {s H : ByteArray} {k l : Nat} (h1 : 1 ≤ k) (h2 : k ≤ 6) (h3 : l ≤ 3) (hH : H = (wrdS k ++ lblS l) ++ ⟨#[58]⟩) (hz : H.size ≤ s.size) (he : s.extract 0 H.size = H) : fitsP s (k : Int) (l : Int) = mayF (k : Int) (l : Int) (s.extract H.size s.size) ∧ cutV s = s.extract H.size s.size := by
  obtain ⟨g1, g2, g3⟩ := pre_cut h1 h2 h3 hH hz he
  unfold fitsP fits
  rw [g1, g2, g3]
  exact ⟨by simp, rfl⟩
end Go.Proofs.YthknkglhppngoaaGreatDoor
/- Lines of a contact: the document's own ParseField walks. -/
namespace Go.Proofs.YthknkglhppngoaaGreatDoor
open Go.RowKit
open Go.Lib hiding intOf
set_option linter.unusedVariables false
set_option maxRecDepth 20000
attribute [local go_sem ↓] Go.wp_at_zero Go.wp_at_succ
theorem rparse_out {cs : Array Value} (hc : cs.size = 3) {R : Ending → World → Prop} {a : Act} {w : World} {g : Nat} (h2 : a.tmps.getD 2 undef = .pointer (some ⟨g, 0, none⟩)) (hd : a.defers = []) (hg : Blk w g 23 cs)
    (hR : R (.returned (.tuple #[.agg cs, a.tmps.getD 3 undef])) w) : bodyPost Tryz.prog Tryz.f8 R .ret a w :=
  bodyPost_ret (Day.results_cell1 (fn := Tryz.f8) rfl a.tmps Tryz.prog w g 23 cs (0, 0) _ h2 hg Tryz.underlying23 (by rw [hc]; rfl)) hd hR
set_option maxHeartbeats 8000000 in
theorem frparse_any (s : ByteArray) (hs : s.size ≤ 1000000) (w : World) : Calls Tryz.prog 8 #[.string s] w fun e w' => e = .returned (fldV (parseF s)) ∧ Below w.heap.size w w' := by
  obtain ⟨r, hr⟩ : ∃ r, parseF s = r := ⟨_, rfl⟩
  have HR := Lib.hid hr
  rw [hr]
  clear hr
  have HSZ := Lib.hid hs
  have hsI : (s.size : Int) ≤ 1000000 := by omega
  have HX0 := Lib.hid ((Bxs.start w).new 23 #[.int .i64 0, .int .i64 0, .string ⟨#[]⟩])
  clear hs
  go_enter Tryz.func8, Tryz.ntmps8
  go_wp2_with (first
    | (go_at_call 24; (with_reducible refine (words_any _).mono ?_); rintro _ x4 ⟨rfl, hb⟩; have HX4 := Lib.hid (show Bxs w x4 _ from hb ▸ HX0.out.put 9 wordCs (w.heap.size + 1) (by simp)); clear hb)
    | (go_at_call 25; (with_reducible refine (labels_any _).mono ?_); rintro _ x5 ⟨rfl, hb⟩; have HX5 := Lib.hid (show Bxs w x5 _ from hb ▸ HX4.out.put 9 labelCs x4.heap.size rfl); clear hb))
  generalize x4.heap.size = LB at *
  clear HX4 HX0
  go_loopw [6] (fun i wr => ∃ k : Nat, 1 ≤ k ∧ k ≤ 7 ∧ i = .int .i64 (k : Int) ∧ noBeforeP s (k : Int) ∧ Bxs w wr [(w.heap.size, 23, #[.int .i64 0, .int .i64 0, .string ⟨#[]⟩]), (w.heap.size + 1, 9, wordCs), (LB, 9, labelCs)]) (fun i _ => 7 - (intOf i).toNat)
  case atStart => exact ⟨1, by decide, by decide, rfl, fun a b h1 h2 _ _ => by omega, HX5.out⟩
  case round =>
    obtain ⟨k, hk1, hk7, rfl, hN, hP⟩ := hrel
    have HN := Lib.hid hN
    have HP := Lib.hid hP
    clear hN hP
    by_cases hk : k ≤ 6
    · have hkI : (k : Int) ≤ 6 := by omega
      go_wp2
      (try simp only [show decide ((k : Int) ≤ 6) = true from decide_eq_true hkI])
      go_loopw [7] (fun i wr => ∃ l : Nat, l ≤ 4 ∧ i = .int .i64 (l : Int) ∧ noInP s (k : Int) (l : Int) ∧ Bxs w wr [(w.heap.size, 23, #[.int .i64 0, .int .i64 0, .string ⟨#[]⟩]), (w.heap.size + 1, 9, wordCs), (LB, 9, labelCs)]) (fun i _ => 4 - (intOf i).toNat)
      case atStart => exact ⟨0, by decide, rfl, fun b h1 h2 => by omega, HP.out⟩
      case round =>
        obtain ⟨l, hl4, rfl, hI, hP⟩ := hrel
        have HI := Lib.hid hI
        have HQ := Lib.hid hP
        clear hI hP
        by_cases hl : l ≤ 3
        · have hlI : (l : Int) < 4 := by omega
          have hk7I : (k : Int) < 7 := by omega
          have hk0I : (0 : Int) ≤ (k : Int) := by omega
          have hl0I : (0 : Int) ≤ (l : Int) := by omega
          have cw : wr.cell? ⟨w.heap.size + 1, k, none⟩ = some (.string (wrdS k)) := ((HQ.out.get 1 rfl).cell k).trans (word_at k (by omega))
          have cl : wr.cell? ⟨LB, l, none⟩ = some (.string (lblS l)) := ((HQ.out.get 2 rfl).cell l).trans (label_at l (by omega))
          have HWL := Lib.hid (wl_size k l)
          have HFN := Lib.hid (fun H (hH : H = (wrdS k ++ lblS l) ++ ⟨#[58]⟩) hn => fits_no (s := s) hk1 hk (by omega) hH hn)
          have HFY := Lib.hid (fun H (hH : H = (wrdS k ++ lblS l) ++ ⟨#[58]⟩) hz he => fits_yes (s := s) hk1 hk (by omega) hH hz he)
          obtain ⟨A, hA⟩ : ∃ A, wrdS k = A := ⟨_, rfl⟩
          obtain ⟨B, hB⟩ : ∃ B, lblS l = B := ⟨_, rfl⟩
          rw [hA] at HWL HFN HFY cw
          rw [hB] at HWL HFN HFY cl
          clear hA hB
          have ha : (A.size : Int) ≤ 4 := by have := HWL.out.1; omega
          have hb : (B.size : Int) ≤ 5 := by have := HWL.out.2; omega
          have hab : ((A ++ B).size : Int) ≤ 9 := by rw [ByteArray.size_append]; omega
          go_wp2
          go_quiet (fail)
          obtain ⟨H, hH⟩ : ∃ H, (A ++ B) ++ ⟨#[58]⟩ = H := ⟨_, rfl⟩
          rw [hH]
          have hHI : (H.size : Int) ≤ 10 := by
            have z : ((⟨#[58]⟩ : ByteArray).size : Int) = 1 := rfl
            rw [← hH, ByteArray.size_append]; omega
          have hqd := HQ.out.drewN nq
          obtain ⟨wd, hwd⟩ : ∃ wd, wr.drewN nq = wd := ⟨_, rfl⟩
          rw [hwd] at hqd ⊢
          have HQD := Lib.hid hqd
          clear hqd hwd
          have hn0 := HFN.out H hH.symm
          have hy0 := HFY.out H hH.symm
          have HFN2 := Lib.hid hn0
          have HFY2 := Lib.hid hy0
          clear HFN HFY hH hab ha hb cw cl HWL hn0 hy0
          by_cases hlt : (s.size : Int) < (H.size : Int)
          · have HF := Lib.hid (show fitsP s (k : Int) (l : Int) = false from HFN2.out fun h => by have := h.1; omega)
            have HIN := Lib.hid (HI.out.next HF.out)
            go_wp2
            go_roundw
            case rel => exact ⟨l + 1, by omega, by go_num, by have := HIN.out; simpa using this, HQD.out⟩
            case measure => simp [intOf]; omega
          · have hge : (H.size : Int) ≤ (s.size : Int) := by omega
            have hz : H.size ≤ s.size := by omega
            by_cases heq : s.extract 0 H.size = H
            · have hyes := HFY2.out hz heq
              have HV := Lib.hid hyes.2
              have HY := Lib.hid hyes.1
              have dq : ((s.extract 0 H.size).toList == H.toList) = true := by rw [heq]; simp
              have hvz : (s.extract H.size s.size).size ≤ 1000000 := by rw [ByteArray.size_extract]; have := HSZ.out; omega
              have HM := Lib.hid (fun w => frmay_any (k : Int) (l : Int) (s.extract H.size s.size) hvz w)
              clear hyes heq hvz HFN2 HFY2 hz
              cases hm : mayF (k : Int) (l : Int) (s.extract H.size s.size) with
              | false =>
                rw [hm] at HM
                have HF := Lib.hid (show fitsP s (k : Int) (l : Int) = false from HY.out.trans hm)
                have HIN := Lib.hid (HI.out.next HF.out)
                clear hm
                go_wp2_with (go_at_call 10; (with_reducible refine (HM.out _).mono ?_); rintro e w3 ⟨rfl, hb⟩; have HZ := Lib.hid ((HQD.out.alloc _).step hb); clear hb)
                go_roundw
                case rel => exact ⟨l + 1, by omega, by go_num, by have := HIN.out; simpa using this, HZ.out⟩
                case measure => simp [intOf]; omega
              | true =>
                rw [hm] at HM
                have HF := Lib.hid (show r = ⟨(k : Int), (l : Int), s.extract H.size s.size, 0⟩ by
                  rw [← HR.out, parse_fit (by omega) (by omega) (by omega) (by omega) (HY.out.trans hm), HV.out])
                clear hm
                go_wp2_with (go_at_call 10; (with_reducible refine (HM.out _).mono ?_); rintro e w3 ⟨rfl, hb⟩; have HZ := Lib.hid ((HQD.out.put 23 #[.int .i64 (k : Int), .int .i64 (l : Int), .string (s.extract H.size s.size)] wd.heap.size rfl).step hb); have a0 := (HZ.out.get 3 rfl).cell 0; have a1 := (HZ.out.get 3 rfl).cell 1; have a2 := (HZ.out.get 3 rfl).cell 2; have b0 := (HZ.out.get 0 rfl).cell 0; have b1 := (HZ.out.get 0 rfl).cell 1; have b2 := (HZ.out.get 0 rfl).cell 2; have g0 := (HZ.out.get 0 rfl).frozen 0; have g1 := (HZ.out.get 0 rfl).frozen 1; have g2 := (HZ.out.get 0 rfl).frozen 2; clear hb)
                (try simp only [Exit.inBlock, Exit.then])
                rw [HF.out]
                exact rparse_out (cs := #[.int .i64 (k : Int), .int .i64 (l : Int), .string (s.extract H.size s.size)]) (g := w.heap.size) rfl rfl rfl (put3 (HZ.out.get 0 rfl) _ _ _) ⟨rfl, bel3 HZ.out.bel (Nat.le_refl _) _ _ _⟩
            · have HF := Lib.hid (show fitsP s (k : Int) (l : Int) = false from HFN2.out fun h => heq h.2)
              have HIN := Lib.hid (HI.out.next HF.out)
              have dq : ((s.extract 0 H.size).toList == H.toList) = false := by
                simp only [ByteArray.toList_eq, beq_eq_false_iff_ne, ne_eq]
                exact fun e => heq (bs_ext e)
              clear heq HFN2 HFY2 hz
              go_wp2
              go_roundw
              case rel => exact ⟨l + 1, by omega, by go_num, by have := HIN.out; simpa using this, HQD.out⟩
              case measure => simp [intOf]; omega
        · obtain rfl : l = 4 := by omega
          have HB := Lib.hid (HN.out.next HI.out)
          go_wp2
          go_roundw
          case rel => exact ⟨k + 1, by omega, by omega, by go_num, by have := HB.out; simpa using this, HQ.out⟩
          case measure => simp [intOf]; omega
    · obtain rfl : k = 7 := by omega
      have H0 := Lib.hid (show r = noF by rw [← HR.out]; exact parse_not fun a b h1 h2 h3 h4 => HN.out a b h1 (by omega) h3 h4)
      have b0 := (HP.out.get 0 rfl).cell 0; have b1 := (HP.out.get 0 rfl).cell 1; have b2 := (HP.out.get 0 rfl).cell 2; have g0 := (HP.out.get 0 rfl).frozen 0; have g1 := (HP.out.get 0 rfl).frozen 1; have g2 := (HP.out.get 0 rfl).frozen 2
      go_wp2
      (try simp only [Exit.inBlock, Exit.then])
      rw [H0.out]
      exact rparse_out (cs := #[.int .i64 0, .int .i64 0, .string ⟨#[]⟩]) (g := w.heap.size) rfl rfl rfl (put3 (HP.out.get 0 rfl) _ _ _) ⟨rfl, bel3 HP.out.bel (Nat.le_refl _) _ _ _⟩
end Go.Proofs.YthknkglhppngoaaGreatDoor
/- FieldTells: its walk. -/
namespace Go.Proofs.YthknkglhppngoaaGreatDoor
open Go.RowKit
open Go.Lib hiding intOf
set_option linter.unusedVariables false
set_option maxRecDepth 100000
attribute [local go_sem ↓] Go.wp_at_zero Go.wp_at_succ
set_option maxHeartbeats 4000000 in
theorem tells_big (w : World) (hE : Env w) (k l : Int) (v : ByteArray) (k2 l2 : Int) (v2 : ByteArray) (s : ByteArray) (h : 300 < v.size ∨ 300 < v2.size ∨ 300 < s.size) : Calls Tryz.prog 3 #[.agg #[.int .i64 k, .int .i64 l, .string v], .agg #[.int .i64 k2, .int .i64 l2, .string v2], .string s] w fun e w' => e = .returned (.bool true) ∧ Below w.heap.size w w' := by
  have HF := Lib.hid first_any
  have HE := Lib.hid hE
  have HX0 := Lib.hid (Bxs.two w 23 23 #[.int .i64 k, .int .i64 l, .string v] #[.int .i64 k2, .int .i64 l2, .string v2])
  rcases (show (v.size : Int) > 300 ∨ ((v.size : Int) ≤ 300 ∧ (v2.size : Int) > 300) ∨ ((v.size : Int) ≤ 300 ∧ (v2.size : Int) ≤ 300 ∧ (s.size : Int) > 300) by omega) with h1 | ⟨h1, h2⟩ | ⟨h1, h2, h3⟩
  all_goals (
    clear h hE
    go_enter Tryz.func3, Tryz.ntmps3
    go_wp2_with (go_at_call 4; (with_reducible refine (HF.out _ (HE.out.on HX0.out.bel)).mono ?_); rintro e w1 ⟨rfl, hb⟩; have HX1 := Lib.hid (HX0.out.step hb); have a1_0_0 := (HX1.out.get 0 rfl).cell 0; have a1_0_1 := (HX1.out.get 0 rfl).cell 1; have a1_0_2 := (HX1.out.get 0 rfl).cell 2; have a1_1_0 := (HX1.out.get 1 rfl).cell 0; have a1_1_1 := (HX1.out.get 1 rfl).cell 1; have a1_1_2 := (HX1.out.get 1 rfl).cell 2; clear hb)
    go_wp2_with (go_at_call 4; (with_reducible refine (HF.out _ (HE.out.on HX1.out.bel)).mono ?_); rintro e w2 ⟨rfl, hb⟩; have HX2 := Lib.hid (HX1.out.step hb); have a2_0_0 := (HX2.out.get 0 rfl).cell 0; have a2_0_1 := (HX2.out.get 0 rfl).cell 1; have a2_0_2 := (HX2.out.get 0 rfl).cell 2; have a2_1_0 := (HX2.out.get 1 rfl).cell 0; have a2_1_1 := (HX2.out.get 1 rfl).cell 1; have a2_1_2 := (HX2.out.get 1 rfl).cell 2; clear hb)
    go_ret
    exact ⟨rfl, HX2.out.bel⟩)
theorem canon_form (k l : Int) (v : ByteArray) : ∃ k2 l2 t e, canonV k l v = .tuple #[.agg #[.int .i64 k2, .int .i64 l2, .string t], .int .i64 e] := by
  rcases canon_cases k l v with ⟨e, _, h, _⟩ | ⟨t, h, _⟩
  · exact ⟨0, 0, ⟨#[]⟩, e, h⟩
  · exact ⟨k, l, t, 0, h⟩
theorem rcanon_on (k l : Int) (v : ByteArray) (hs : v.size ≤ 1000000) (k2 l2 : Int) (v2 : ByteArray) (e : Int) (hr : canonV k l v = .tuple #[.agg #[.int .i64 k2, .int .i64 l2, .string v2], .int .i64 e]) (w : World) : Calls Tryz.prog 6 #[.agg #[.int .i64 k, .int .i64 l, .string v]] w fun x w' => x = .returned (.tuple #[.agg #[.int .i64 k2, .int .i64 l2, .string v2], .int .i64 e]) ∧ Below w.heap.size w w' := by
  have := frcanon_any k l v hs w
  rw [hr] at this
  exact this
theorem rparse_on (s : ByteArray) (hs : s.size ≤ 1000000) (k l : Int) (v : ByteArray) (e : Int) (hr : parseF s = ⟨k, l, v, e⟩) (w : World) : Calls Tryz.prog 8 #[.string s] w fun x w' => x = .returned (.tuple #[.agg #[.int .i64 k, .int .i64 l, .string v], .int .i64 e]) ∧ Below w.heap.size w w' := by
  have := frparse_any s hs w
  rw [hr] at this
  exact this
theorem rline_on (k l : Int) (v : ByteArray) (hs : v.size ≤ 1000000) (r : ByteArray) (hr : lineF k l v = r) (w : World) : Calls Tryz.prog 12 #[.agg #[.int .i64 k, .int .i64 l, .string v]] w fun x w' => x = .returned (.string r) ∧ Below w.heap.size w w' := by
  have := frline_any k l v hs w
  rw [hr] at this
  exact this
theorem rmay_on (k l : Int) (v : ByteArray) (hs : v.size ≤ 1000000) (r : Bool) (hr : mayF k l v = r) (w : World) : Calls Tryz.prog 10 #[.agg #[.int .i64 k, .int .i64 l, .string v]] w fun x w' => x = .returned (.bool r) ∧ Below w.heap.size w w' := by
  have := frmay_any k l v hs w
  rw [hr] at this
  exact this
theorem rless_on (k l : Int) (v : ByteArray) (k2 l2 : Int) (v2 : ByteArray) (r : Bool) (hr : lessF k l v k2 l2 v2 = r) (w : World) : Calls Tryz.prog 14 #[.agg #[.int .i64 k, .int .i64 l, .string v], .agg #[.int .i64 k2, .int .i64 l2, .string v2]] w fun e w' => e = .returned (.bool r) ∧ Below w.heap.size w w' := by
  have := frless_any k l v k2 l2 v2 w
  rw [hr] at this
  exact this
theorem tless_on (k l : Int) (v : ByteArray) (k2 l2 : Int) (v2 : ByteArray) (r : Bool) (hr : lessF k l v k2 l2 v2 = r) (w : World) : Calls Tryz.prog 13 #[.agg #[.int .i64 k, .int .i64 l, .string v], .agg #[.int .i64 k2, .int .i64 l2, .string v2]] w fun e w' => e = .returned (.bool r) ∧ Below w.heap.size w w' := by
  have := less_any k l v k2 l2 v2 w
  rw [hr] at this
  exact this
set_option maxHeartbeats 32000000 in
theorem tells_in (w : World) (hE : Env w) (k l : Int) (v : ByteArray) (k2 l2 : Int) (v2 : ByteArray) (s : ByteArray) (h1 : (v.size : Int) ≤ 300) (h2 : (v2.size : Int) ≤ 300) (h3 : (s.size : Int) ≤ 300) (ka la : Int) (ta : ByteArray) (ea : Int) (kp lp : Int) (tp : ByteArray) (ep : Int) (m : Bool) (L : ByteArray) (ls : Bool)
    (hc : canonV k l v = .tuple #[.agg #[.int .i64 ka, .int .i64 la, .string ta], .int .i64 ea]) (hp : parseF s = ⟨kp, lp, tp, ep⟩) (hm : mayF k l v = m) (hL : lineF k l v = L) (hls : lessF k l v k2 l2 v2 = ls) :
    Calls Tryz.prog 3 #[.agg #[.int .i64 k, .int .i64 l, .string v], .agg #[.int .i64 k2, .int .i64 l2, .string v2], .string s] w fun e w' => e = .returned (.bool true) ∧ Below w.heap.size w w' := by
  have HF := Lib.hid first_any
  have HE := Lib.hid hE
  have HX0 := Lib.hid (Bxs.two w 23 23 #[.int .i64 k, .int .i64 l, .string v] #[.int .i64 k2, .int .i64 l2, .string v2])
  have HC := Lib.hid (canon_on k l v (by omega) _ _ _ _ hc)
  have HRC := Lib.hid (rcanon_on k l v (by omega) _ _ _ _ hc)
  have HP := Lib.hid (parse_on s (by omega) _ _ _ _ hp)
  have HRP := Lib.hid (rparse_on s (by omega) _ _ _ _ hp)
  have HM := Lib.hid (may_on k l v (by omega) _ hm)
  have HRM := Lib.hid (rmay_on k l v (by omega) _ hm)
  have HL := Lib.hid (line_on k l v (by omega) _ hL)
  have HRL := Lib.hid (rline_on k l v (by omega) _ hL)
  have HS := Lib.hid (tless_on k l v k2 l2 v2 _ hls)
  have HRS := Lib.hid (rless_on k l v k2 l2 v2 _ hls)
  have et1 : (ta.toList == ta.toList) = true := by simp
  have et2 : (tp.toList == tp.toList) = true := by simp
  have et3 : (L.toList == L.toList) = true := by simp
  clear hE hc hp hm hL hls
  go_enter Tryz.func3, Tryz.ntmps3
  go_wp2_with (go_at_call 4; (with_reducible refine (HF.out _ (HE.out.on HX0.out.bel)).mono ?_); rintro e w1 ⟨rfl, hb⟩; have HX1 := Lib.hid (HX0.out.step hb); have a1_0_0 := (HX1.out.get 0 rfl).cell 0; have a1_0_1 := (HX1.out.get 0 rfl).cell 1; have a1_0_2 := (HX1.out.get 0 rfl).cell 2; have a1_1_0 := (HX1.out.get 1 rfl).cell 0; have a1_1_1 := (HX1.out.get 1 rfl).cell 1; have a1_1_2 := (HX1.out.get 1 rfl).cell 2; clear hb)
  go_wp2_with (go_at_call 5; (with_reducible refine (HC.out _ (HE.out.on HX1.out.bel)).mono ?_); rintro e w2 ⟨rfl, hb⟩; have HX2 := Lib.hid ((HX1.out.step hb).new 23 #[.int .i64 ka, .int .i64 la, .string ta]); have a2_0_0 := (HX2.out.get 0 rfl).cell 0; have a2_0_1 := (HX2.out.get 0 rfl).cell 1; have a2_0_2 := (HX2.out.get 0 rfl).cell 2; have a2_1_0 := (HX2.out.get 1 rfl).cell 0; have a2_1_1 := (HX2.out.get 1 rfl).cell 1; have a2_1_2 := (HX2.out.get 1 rfl).cell 2; clear hb)
  go_wp2_with (go_at_call 6; (with_reducible refine (HRC.out _).mono ?_); rintro e w3 ⟨rfl, hb⟩; have HX3 := Lib.hid ((HX2.out.step hb).new 23 #[.int .i64 ka, .int .i64 la, .string ta]); have a3_0_0 := (HX3.out.get 0 rfl).cell 0; have a3_0_1 := (HX3.out.get 0 rfl).cell 1; have a3_0_2 := (HX3.out.get 0 rfl).cell 2; have a3_1_0 := (HX3.out.get 1 rfl).cell 0; have a3_1_1 := (HX3.out.get 1 rfl).cell 1; have a3_1_2 := (HX3.out.get 1 rfl).cell 2; have a3_2_0 := (HX3.out.get 2 rfl).cell 0; have a3_2_1 := (HX3.out.get 2 rfl).cell 1; have a3_2_2 := (HX3.out.get 2 rfl).cell 2; clear hb)
  go_wp2_with (go_at_call 7; (with_reducible refine (HP.out _ (HE.out.on HX3.out.bel)).mono ?_); rintro e w4 ⟨rfl, hb⟩; have HX4 := Lib.hid ((HX3.out.step hb).new 23 #[.int .i64 kp, .int .i64 lp, .string tp]); have a4_0_0 := (HX4.out.get 0 rfl).cell 0; have a4_0_1 := (HX4.out.get 0 rfl).cell 1; have a4_0_2 := (HX4.out.get 0 rfl).cell 2; have a4_1_0 := (HX4.out.get 1 rfl).cell 0; have a4_1_1 := (HX4.out.get 1 rfl).cell 1; have a4_1_2 := (HX4.out.get 1 rfl).cell 2; have a4_2_0 := (HX4.out.get 2 rfl).cell 0; have a4_2_1 := (HX4.out.get 2 rfl).cell 1; have a4_2_2 := (HX4.out.get 2 rfl).cell 2; have a4_3_0 := (HX4.out.get 3 rfl).cell 0; have a4_3_1 := (HX4.out.get 3 rfl).cell 1; have a4_3_2 := (HX4.out.get 3 rfl).cell 2; clear hb)
  go_wp2_with (go_at_call 8; (with_reducible refine (HRP.out _).mono ?_); rintro e w5 ⟨rfl, hb⟩; have HX5 := Lib.hid ((HX4.out.step hb).new 23 #[.int .i64 kp, .int .i64 lp, .string tp]); have a5_0_0 := (HX5.out.get 0 rfl).cell 0; have a5_0_1 := (HX5.out.get 0 rfl).cell 1; have a5_0_2 := (HX5.out.get 0 rfl).cell 2; have a5_1_0 := (HX5.out.get 1 rfl).cell 0; have a5_1_1 := (HX5.out.get 1 rfl).cell 1; have a5_1_2 := (HX5.out.get 1 rfl).cell 2; have a5_2_0 := (HX5.out.get 2 rfl).cell 0; have a5_2_1 := (HX5.out.get 2 rfl).cell 1; have a5_2_2 := (HX5.out.get 2 rfl).cell 2; have a5_3_0 := (HX5.out.get 3 rfl).cell 0; have a5_3_1 := (HX5.out.get 3 rfl).cell 1; have a5_3_2 := (HX5.out.get 3 rfl).cell 2; have a5_4_0 := (HX5.out.get 4 rfl).cell 0; have a5_4_1 := (HX5.out.get 4 rfl).cell 1; have a5_4_2 := (HX5.out.get 4 rfl).cell 2; clear hb)
  go_wp2_with fail
  generalize w2.heap.size = A at *
  generalize w3.heap.size = B at *
  generalize w4.heap.size = C at *
  generalize w5.heap.size = D at *
  have HV0 := Lib.hid (HX5.out.drew)
  have HSC : Hid (∀ wr, Bxs w wr [(w.heap.size, 23, #[.int .i64 k, .int .i64 l, .string v]), (w.heap.size + 1, 23, #[.int .i64 k2, .int .i64 l2, .string v2]), (A, 23, #[.int .i64 ka, .int .i64 la, .string ta]), (B, 23, #[.int .i64 ka, .int .i64 la, .string ta]), (C, 23, #[.int .i64 kp, .int .i64 lp, .string tp]), (D, 23, #[.int .i64 kp, .int .i64 lp, .string tp])] → (wr.cell? ⟨w.heap.size, 0, none⟩ = some (.int .i64 k) ∧ wr.cell? ⟨w.heap.size, 1, none⟩ = some (.int .i64 l) ∧ wr.cell? ⟨w.heap.size, 2, none⟩ = some (.string v) ∧ wr.cell? ⟨w.heap.size + 1, 0, none⟩ = some (.int .i64 k2) ∧ wr.cell? ⟨w.heap.size + 1, 1, none⟩ = some (.int .i64 l2) ∧ wr.cell? ⟨w.heap.size + 1, 2, none⟩ = some (.string v2) ∧ wr.cell? ⟨A, 0, none⟩ = some (.int .i64 ka) ∧ wr.cell? ⟨A, 1, none⟩ = some (.int .i64 la) ∧ wr.cell? ⟨A, 2, none⟩ = some (.string ta) ∧ wr.cell? ⟨B, 0, none⟩ = some (.int .i64 ka) ∧ wr.cell? ⟨B, 1, none⟩ = some (.int .i64 la) ∧ wr.cell? ⟨B, 2, none⟩ = some (.string ta) ∧ wr.cell? ⟨C, 0, none⟩ = some (.int .i64 kp) ∧ wr.cell? ⟨C, 1, none⟩ = some (.int .i64 lp) ∧ wr.cell? ⟨C, 2, none⟩ = some (.string tp) ∧ wr.cell? ⟨D, 0, none⟩ = some (.int .i64 kp) ∧ wr.cell? ⟨D, 1, none⟩ = some (.int .i64 lp) ∧ wr.cell? ⟨D, 2, none⟩ = some (.string tp))) := Lib.hid fun wr h => ⟨(h.get 0 rfl).cell 0, (h.get 0 rfl).cell 1, (h.get 0 rfl).cell 2, (h.get 1 rfl).cell 0, (h.get 1 rfl).cell 1, (h.get 1 rfl).cell 2, (h.get 2 rfl).cell 0, (h.get 2 rfl).cell 1, (h.get 2 rfl).cell 2, (h.get 3 rfl).cell 0, (h.get 3 rfl).cell 1, (h.get 3 rfl).cell 2, (h.get 4 rfl).cell 0, (h.get 4 rfl).cell 1, (h.get 4 rfl).cell 2, (h.get 5 rfl).cell 0, (h.get 5 rfl).cell 1, (h.get 5 rfl).cell 2⟩
  have s0 := HSC.out _ HV0.out
  go_region_held3 (fun wr => (wr.cell? ⟨w.heap.size, 0, none⟩ = some (.int .i64 k) ∧ wr.cell? ⟨w.heap.size, 1, none⟩ = some (.int .i64 l) ∧ wr.cell? ⟨w.heap.size, 2, none⟩ = some (.string v) ∧ wr.cell? ⟨w.heap.size + 1, 0, none⟩ = some (.int .i64 k2) ∧ wr.cell? ⟨w.heap.size + 1, 1, none⟩ = some (.int .i64 l2) ∧ wr.cell? ⟨w.heap.size + 1, 2, none⟩ = some (.string v2) ∧ wr.cell? ⟨A, 0, none⟩ = some (.int .i64 ka) ∧ wr.cell? ⟨A, 1, none⟩ = some (.int .i64 la) ∧ wr.cell? ⟨A, 2, none⟩ = some (.string ta) ∧ wr.cell? ⟨B, 0, none⟩ = some (.int .i64 ka) ∧ wr.cell? ⟨B, 1, none⟩ = some (.int .i64 la) ∧ wr.cell? ⟨B, 2, none⟩ = some (.string ta) ∧ wr.cell? ⟨C, 0, none⟩ = some (.int .i64 kp) ∧ wr.cell? ⟨C, 1, none⟩ = some (.int .i64 lp) ∧ wr.cell? ⟨C, 2, none⟩ = some (.string tp) ∧ wr.cell? ⟨D, 0, none⟩ = some (.int .i64 kp) ∧ wr.cell? ⟨D, 1, none⟩ = some (.int .i64 lp) ∧ wr.cell? ⟨D, 2, none⟩ = some (.string tp))) (first | exact s0 | exact s1 | exact s2 | exact s3 | exact s4 | exact s5 | exact s6) (first
    | (go_at_call 9; (with_reducible refine (HM.out _ (HE.out.on HV0.out.bel)).mono ?_); rintro _ v10 ⟨rfl, hb⟩; have HV1 := Lib.hid (HV0.out.step hb); have s1 := HSC.out _ HV1.out; clear hb)
    | (go_at_call 10; (with_reducible refine (HRM.out _).mono ?_); rintro _ v11 ⟨rfl, hb⟩; have HV2 := Lib.hid (HV1.out.step hb); have s2 := HSC.out _ HV2.out; clear hb)
    | (go_at_call 11; (with_reducible refine (HL.out _ (HE.out.on HV2.out.bel)).mono ?_); rintro _ v12 ⟨rfl, hb⟩; have HV3 := Lib.hid (HV2.out.step hb); have s3 := HSC.out _ HV3.out; clear hb)
    | (go_at_call 12; (with_reducible refine (HRL.out _).mono ?_); rintro _ v13 ⟨rfl, hb⟩; have HV4 := Lib.hid (HV3.out.step hb); have s4 := HSC.out _ HV4.out; clear hb)
    | (go_at_call 13; (with_reducible refine (HS.out _).mono ?_); rintro _ v14 ⟨rfl, hb⟩; have HV5 := Lib.hid (HV4.out.step hb); have s5 := HSC.out _ HV5.out; clear hb)
    | (go_at_call 14; (with_reducible refine (HRS.out _).mono ?_); rintro _ v15 ⟨rfl, hb⟩; have HV6 := Lib.hid (HV5.out.step hb); have s6 := HSC.out _ HV6.out; clear hb))
  all_goals (
    go_wp2
    go_ret
    exact ⟨rfl, HV6.out.bel⟩)
theorem fieldTells_walk (w : World) (hTD : Tabs w ∧ Day.Tab w.heap.size w) (hM : Mx w) (a0 : Int) (w0 : (Lit.int .i64 a0).wf = true) (a1 : Int) (w1 : (Lit.int .i64 a1).wf = true) (a2 : ByteArray) (w2 : a2.size ≤ maxLen) (a3 : Int) (w3 : (Lit.int .i64 a3).wf = true) (a4 : Int) (w4 : (Lit.int .i64 a4).wf = true) (a5 : ByteArray) (w5 : a5.size ≤ maxLen) (a6 : ByteArray) (w6 : a6.size ≤ maxLen) :
    Calls Tryz.prog 3 #[.agg #[.int .i64 a0, .int .i64 a1, .string a2], .agg #[.int .i64 a3, .int .i64 a4, .string a5], .string a6] w fun e w' => e = .returned (.bool true) ∧ Below w.heap.size w w' := by
  have hE : Env w := ⟨hTD.1, hM, hTD.2⟩
  by_cases hbig : 300 < a2.size ∨ 300 < a5.size ∨ 300 < a6.size
  · exact tells_big w hE _ _ _ _ _ _ _ hbig
  · obtain ⟨ka, la, ta, ea, hc⟩ := canon_form a0 a1 a2
    exact tells_in w hE a0 a1 a2 a3 a4 a5 a6 (by omega) (by omega) (by omega) ka la ta ea _ _ _ _ _ _ _ hc rfl rfl rfl rfl
end Go.Proofs.YthknkglhppngoaaGreatDoor
/- A law's row over listed variables that reads one of the library's besides: the world's shape is handed on. -/
namespace Go.Proofs.YthknkglhppngoaaGreatDoor
open Go.ChangeShapes Go.WideShapes Go.RowKit
variable {H : Type} {enc : TypeId × Value → H}
theorem handed_and_shaped {a : Assume} {C : Checked} {os : Os} {f : FuncId} {fn : Func} {s : ChangeSpec} {conds : List PathCond} {apart fresh handsOn again : Bool} {X : World → Array Value → Prop}
    (hX : ∀ (w w' : World) (args : Array Value), w.heap = w'.heap → X w args → X w' args)
    (own : ownKnob C.prog.godebug = none) (started : os.Started) (noInit : C.prog.inits.idxOf? f = none) (hfn : C.prog.funcs[f]? = some fn)
    (witness : ∃ (w : World) (tape : Tape) (i : Input), w.os = os ∧ (w.forCall tape i).Shaped C.prog ∧ i.vars = [] ∧ Input.okWide C.prog (w.forCall tape i) .any w.heap.size f i ∧
      ((s.pre enc C.prog fn conds apart (w.forCall tape i).memory i.args ∧ X (w.forCall tape i).memory i.args) ∧ sizedMet enc C.prog fn (OpenSpec.ofChange s) apart (w.forCall tape i).memory i.args) ∧ a.holds C.prog (lone (Frame.enter C.prog f i.args .normal) [] (w.forCall tape i)))
    (contract : ∀ (W : World) (base : Nat) (args : Array Value) (ds gs : List (DataW H)) (before : List MemPlace),
      (∀ (j : Nat) t v, fn.params[j]? = some t → args[j]? = some v → Value.okWide C.prog W .any base t v) →
      DataW.Whole enc C.prog fn.params.toList s.vars apart W args.toList ds gs before →
      X W args → W.ShapedOpen C.prog →
      Calls C.prog f args W fun e W' => ∃ v, e = .returned v ∧ s.post enc C.prog fn apart fresh handsOn again W args v W') :
    ReturnsInHanded a C os f .any (fun w args => (s.pre enc C.prog fn conds apart w args ∧ X w args) ∧ sizedMet enc C.prog fn (OpenSpec.ofChange s) apart w args) (s.post enc C.prog fn apart fresh handsOn again) := by
  refine returnsInHanded_of_calls own started noInit witness ?_
  intro w tape i _ hsh _ hok hpre _
  obtain ⟨_, _, _, fn', hfn', _, _, _, _, hval⟩ := hok
  have e : fn' = fn := Option.some.inj (hfn'.symm.trans hfn)
  subst e
  obtain ⟨⟨⟨ds, gs, before, hw, _⟩, hx⟩, _⟩ := hpre
  have hw' := DataW.Whole.of_heap (w' := w.forCall tape i) (by rfl) hw
  refine (contract (w.forCall tape i) w.heap.size i.args ds gs before hval hw' (hX _ _ _ (by rfl) hx) hsh).mono fun e W' ⟨v, he, hp⟩ => ?_
  subst he
  exact ChangeSpec.post_blind hp
set_option maxRecDepth 100000 in
theorem mx_of {W : World} (h : W.ShapedOpen Tryz.prog) : Mx W :=
  cell_of_shapedOpen_int h (g := 2) (t := 3) (zero := #[.int .i64 0]) (of_decide_eq_true (by kernel_rfl)) (by kernel_rfl) rfl (by kernel_rfl) (by kernel_rfl) Tryz.underlying3
end Go.Proofs.YthknkglhppngoaaGreatDoor
namespace Go.Proofs.YthknkglhppngoaaGreatDoor
open Go.ChangeShapes Go.WideShapes Go.RowKit
abbrev laidL : List (String × DataW Unit) := [("math/bits.deBruijn32tab", Rows.laid_math_bits_deBruijn32tab), ("math/bits.deBruijn64tab", Rows.laid_math_bits_deBruijn64tab), ("internal/strconv.uint64pow10", Rows.laid_internal_strconv_uint64pow10), ("unicode/utf8.acceptRanges", Rows.laid_unicode_utf8_acceptRanges), ("unicode/utf8.first", Rows.laid_unicode_utf8_first)]
set_option maxRecDepth 100000 in
theorem door_met (os : Os) (args : Array Value) : laidMetH Tryz.prog laidL ((World.laidAll Tryz.prog os laidL).forCall (fun _ _ => 0) ⟨#[], args, []⟩).memory := by
  rw [MakeChecks.laidMetH_plain _ _ _ (by kernel_rfl)]; exact laidMet_laidAll _ (by kernel_rfl) (by kernel_rfl)
theorem acc_eq : (Rows.laid_unicode_utf8_acceptRanges : DataW Unit) = Lib.acceptData := by kernel_rfl
theorem fst_eq : Rows.laid_unicode_utf8_first = Lib.firstData := Pinned.utf8First_eq
theorem pow_eq : (Rows.laid_internal_strconv_uint64pow10 : DataW Unit) = Lib.tabData .u64 Lib.pow10Tab := by kernel_rfl
set_option maxRecDepth 100000 in
theorem facts {W : World} (h : laidMetH Tryz.prog laidL W) : Tabs W ∧ Day.Tab W.heap.size W := by
  rw [MakeChecks.laidMetH_plain _ _ _ (by kernel_rfl)] at h
  have h1 : laidMet Tryz.prog [("internal/strconv.uint64pow10", Lib.tabData .u64 Lib.pow10Tab), ("unicode/utf8.acceptRanges", Lib.acceptData), ("unicode/utf8.first", Lib.firstData)] W := by rw [← acc_eq, ← fst_eq, ← pow_eq]; exact h.tail.tail
  have h2 : laidMet Tryz.prog [("unicode/utf8.acceptRanges", Lib.acceptData), ("unicode/utf8.first", Lib.firstData)] W := h1.tail
  exact ⟨utf8Tabs_of_readsT (U8Types.of196 Tryz.lays196) ⟨by kernel_rfl, by kernel_rfl, by kernel_rfl, by kernel_rfl, by kernel_rfl, by kernel_rfl, by kernel_rfl⟩ (Lib.laidMet.reads h2 (.tail _ (.head _))) (Lib.laidMet.reads h2 (.head _)),
    Lib.tabBelow_of_tabIs (Lib.tabIs_of_head (g := 3) (t := 109) (e := 78) (n := 20) (by kernel_rfl) (by kernel_rfl) Tryz.underlying109 Tryz.underlying78 (by kernel_rfl) (by kernel_rfl) h1)⟩
end Go.Proofs.YthknkglhppngoaaGreatDoor
