/- The replica: the cards as items; the chapter's example. -/
import Derived.Test.YtpmgabeefppajaaRd
namespace Go.Proofs.Ytpmgabeefppajaa
open Go.RowKit
open Go.Lib
set_option linter.unusedVariables false
set_option linter.unusedSimpArgs false
set_option maxRecDepth 100000
theorem cards_its {w : World} {g m : Nat} {L : LK} {tk : Int} {mo : Bool} (hR : Rp w g m L tk mo) (hn : L.length ≤ 40000) (hks : ∀ q ∈ L, q.1.size ≤ 1000000) : Calls Try.prog 18 #[.pointer (some ⟨g, 0, none⟩)] w fun e w' => ∃ A cap b, e = .returned (.slice A L.length cap) ∧ Its w' A L.length cap b 0 (itsK L) ∧ Below w.heap.size w w' ∧ (0 < L.length → w.heap.size ≤ b) := by
  refine (cards_any hR hn hks).mono ?_
  rintro _ w1 ⟨U, rfl, h1, h2⟩
  rw [← itsK_len L] at h1
  obtain ⟨A, cap, b, rfl, h3, h4⟩ := own_its2 h1
  rw [itsK_len] at h3 h4 ⊢
  exact ⟨A, cap, b, rfl, h3, h2, h4⟩
def exI : It := ⟨⟨#[97]⟩, 6, false, ⟨#[110, 97, 109, 101, 58, 65, 110, 110, 10]⟩⟩
theorem ex_new (w : World) : Its (w.alloc (.cells #[.string { data := #[97] }, .int .i64 6, .bool false, .string { data := #[110, 97, 109, 101, 58, 65, 110, 110, 10] }] 41)) (some ⟨w.heap.size, 0, none⟩) 1 1 w.heap.size 0 [exI] :=
  ⟨rfl, Nat.le_refl _, fun _ => ⟨rfl, by simp⟩, fun j t hj => by
    match j, hj with
    | 0, hj =>
      simp at hj
      subst hj
      have hb := Blk.new w 41 #[.string { data := #[97] }, .int .i64 6, .bool false, .string { data := #[110, 97, 109, 101, 58, 65, 110, 110, 10] }]
      exact ⟨hb.cell 0, hb.cell 1, hb.cell 2, hb.cell 3⟩⟩
theorem ex_fold : foldR ⟨[], 0, false⟩ 0 8 0 6 false [exI] = ⟨[(exI.u, (6, exI.c))], 6, false⟩ := by rfl
theorem ex_foldE : foldE ⟨[], 0, false⟩ 0 8 0 6 [exI] = 0 := by rfl
set_option maxHeartbeats 4000000 in
theorem first_any (w : World) : Calls Try.prog 8 #[] w fun e w' => e = .returned (.bool true) ∧ Below w.heap.size w w' := by
  go_enter Try.func8, Try.ntmps8
  go_wp2_with fail
  refine (rp_new w).mono ?_
  rintro _ w1 ⟨g, m, rfl, hr, hb, hg, hm⟩
  have HR := Lib.hid hr
  have HB := Lib.hid hb
  have HG := Lib.hid hg
  have HM := Lib.hid hm
  clear hr hb hg hm
  obtain ⟨W, hW⟩ : ∃ W, w1.alloc (.cells #[.string { data := #[97] }, .int .i64 6, .bool false, .string { data := #[110, 97, 109, 101, 58, 65, 110, 110, 10] }] 41) = W := ⟨_, rfl⟩
  have hbW : Below w1.heap.size w1 W := hW ▸ (Below.refl _ w1).alloc (Nat.le_refl _) _
  have HRW := Lib.hid (HR.out.below hbW)
  have HBW := Lib.hid (HB.out.trans (hbW.mono HB.out.size))
  have HI := Lib.hid (show Its W (some ⟨w1.heap.size, 0, none⟩) 1 1 w1.heap.size 0 [exI] from hW ▸ ex_new w1)
  have hgl := HR.out.lt
  have hml := HR.out.2.lt
  have HF := Lib.hid (fold_any HRW.out HI.out (fun _ => ⟨by omega, by omega⟩) (by omega) (by simp) (fun t ht => by simp at ht; subst ht; decide) 0 8 0 6 0 { data := #[] } 0 false _ ex_fold 0 ex_foldE)
  clear hbW hgl hml
  go_wp2_with fail
  try rw [hW]
  refine HF.out.mono ?_
  rintro _ w2 ⟨rfl, m1, h1, h2, h3⟩
  have HR2 := Lib.hid h1
  have HB2 := Lib.hid (show Below w.heap.size w w2 from HBW.out.trans (h2.below HBW.out.size HG.out HM.out))
  clear h1 h2 h3 HF
  have HGT := Lib.hid (rp_get HR2.out ⟨#[97]⟩ (some (6, exI.c)) rfl)
  go_wp2_with fail
  refine HGT.out.mono ?_
  rintro _ w3 ⟨rfl, hb3⟩
  have HR3 := Lib.hid (HR2.out.below hb3)
  have HB3 := Lib.hid (HB2.out.trans (hb3.mono HB2.out.size))
  clear hb3 HGT
  have HT := Lib.hid (rp_token HR3.out)
  have HC := Lib.hid (cards_its HR3.out (by simp) (fun q hq => by simp at hq; subst hq; decide))
  go_wp2_with fail
  refine HT.out.mono ?_
  rintro _ wz ⟨rfl, hw0⟩
  replace hw0 := hw0.symm
  subst hw0
  go_wp2_with fail
  refine HC.out.mono ?_
  rintro _ w4 ⟨A, cap, b, rfl, _, hb4, _⟩
  have HR4 := Lib.hid (HR3.out.below hb4)
  have HB4 := Lib.hid (HB3.out.trans (hb4.mono HB3.out.size))
  clear hb4 HC HT
  have HM4 := Lib.hid (rp_more HR4.out)
  have he : (exI.c.toList == [110, 97, 109, 101, 58, 65, 110, 110, 10]) = true := by kernel_rfl
  go_wp2_with fail
  refine HM4.out.mono ?_
  rintro _ wz ⟨rfl, hw0⟩
  replace hw0 := hw0.symm
  subst hw0
  go_wp2
  go_ret
  exact ⟨rfl, HB4.out⟩
end Go.Proofs.Ytpmgabeefppajaa
