/- Stage 14's laws: what the chapter's example fixes. -/
import Derived.Test.YtmapfbnfcbkjpaaLa
namespace Go.Proofs.Ytmapfbnfcbkjpaa
open Go.RowKit
open Go.Lib
set_option linter.unusedVariables false
set_option linter.unusedSimpArgs false
set_option maxRecDepth 100000
abbrev LI := List (ByteArray × Int)
def keysL (L : LI) : List ByteArray := L.map Prod.fst
theorem keysL_len (L : LI) : (keysL L).length = L.length := by unfold keysL; rw [List.length_map]
theorem kvs_svs (L : LI) : OI.kvs L = svs (keysL L) := by unfold OI.kvs svs keysL; rw [List.map_map]; rfl
theorem om_keysX {w : World} {g : Nat} {L : LI} (h : OI.Om w g L) (hn : L.length ≤ 40000) (hks : ∀ q ∈ L, q.1.size ≤ 1000000) (n : Nat) (hl : L.length = n) : Calls Try.prog 17 #[.pointer (some ⟨g, 0, none⟩)] w fun e w' => ∃ A cap gk, e = .returned (.slice A n cap) ∧ Sl w' A cap gk (keysL L) ∧ w'.ownsRow w.heap.size 9 1 (.slice A n cap) n (svs (keysL L)) ∧ Below w.heap.size w w' := by
  subst hl
  refine (OI.om_keys h hn hks).mono ?_
  rintro _ w' ⟨U, rfl, h1, h2⟩
  rw [kvs_svs, ← keysL_len] at h1
  obtain ⟨A, cap, gk, rfl, h3⟩ := sl_row h1
  rw [keysL_len] at h1 ⊢
  exact ⟨A, cap, gk, rfl, h3, h1, h2⟩
def sa : ByteArray := ⟨#[97]⟩
def sb : ByteArray := ⟨#[98]⟩
theorem lt_ab : klt sa sb = true := by unfold klt sa sb; simp [ByteArray.toList_eq, Op.bytesLess]
theorem lt_ba : klt sb sa = false := klt_asym lt_ab
theorem ne_ab : sa ≠ sb := fun e => by have := lt_ab; rw [e, klt_irr] at this; cases this
theorem ins1 : insL sb (1 : Int) [] = [(sb, 1)] := rfl
theorem ins2 : insL sa (2 : Int) [(sb, 1)] = [(sa, 2), (sb, 1)] := by unfold insL; rw [if_pos lt_ab]
theorem sl_two {w : World} {g : Nat} (h : Blk w g 9 #[.string sa, .string sb]) : Sl w (some ⟨g, 0, none⟩) 2 g [sa, sb] := by
  refine ⟨by decide, fun j x hj => ⟨rfl, h.lt, ?_⟩⟩
  rw [h.cell j]
  match j, hj with
  | 0, hj => cases hj; rfl
  | 1, hj => cases hj; rfl
  | j + 2, hj => simp at hj
set_option maxHeartbeats 4000000 in
theorem first_any (w : World) : Calls Try.prog 7 #[] w fun e w' => e = .returned (.bool true) ∧ Below w.heap.size w w' := by
  go_enter Try.func7, Try.ntmps7
  go_wp2_with fail
  refine (OI.om_new _).mono ?_
  rintro _ w1 ⟨g, rfl, h1, hb, hg⟩
  have H1 := Lib.hid h1
  have HB1 := Lib.hid hb
  have hs1 := hb.size
  have hgl := h1.lt
  clear h1 hb
  go_wp2_with fail
  refine (OI.om_put H1.out (by decide) sb 1 false rfl).mono ?_
  rintro _ w2 ⟨rfl, h1, hk⟩
  have H2 := Lib.hid (show OI.Om w2 g [(sb, 1)] from h1)
  have HB2 := Lib.hid (HB1.out.trans (hk.below hg hs1))
  clear h1 hk
  go_wp2_with fail
  refine (OI.om_put H2.out (by simp) sa 2 false (by unfold getL; rw [if_neg ne_ab]; rfl)).mono ?_
  rintro _ w3 ⟨rfl, h1, hk⟩
  have H3 := Lib.hid (show OI.Om w3 g [(sa, 2), (sb, 1)] from ins2 ▸ h1)
  have HB3 := Lib.hid (HB2.out.trans (hk.below hg HB2.out.size))
  clear h1 hk
  go_wp2_with fail
  refine (OI.om_get H3.out sa (some 2) rfl).mono ?_
  rintro _ wz ⟨rfl, hw0⟩
  replace hw0 := hw0.symm
  subst hw0
  have hov : OI.ov (some (2 : Int)) = .int .i64 2 := rfl
  rw [hov]
  go_wp2_with fail
  refine (om_keysX H3.out (by simp) (by simp [sa, sb]; decide) 2 rfl).mono ?_
  rintro _ w4 ⟨A, cap, gk, rfl, hs, _, hb⟩
  have HS := Lib.hid (show Sl w4 A cap gk [sa, sb] from hs)
  have H4 := Lib.hid (H3.out.below hb)
  have HB4 := Lib.hid (HB3.out.trans (hb.mono HB3.out.size))
  clear hs hb
  go_wp2_with fail
  refine (texts_same (l := [sa, sb]) (HS.out.below ((Below.refl _ w4).alloc (Nat.le_refl _) _)) (sl_two (Blk.new w4 9 _)) (by simp)).mono ?_
  rintro _ w5 ⟨rfl, hb⟩
  have hb' := ((Below.refl _ w4).alloc (Nat.le_refl _) (.cells #[.string sa, .string sb] 9)).trans (hb.mono (by simp))
  have H5 := Lib.hid (H4.out.below hb')
  have HB5 := Lib.hid (HB4.out.trans (hb'.mono HB4.out.size))
  clear hb hb'
  go_wp2_with fail
  refine (OI.om_place H5.out (by simp) sb).mono ?_
  rintro _ wz ⟨rfl, hw0⟩
  replace hw0 := hw0.symm
  subst hw0
  have hpl : plc sb [(sa, (2 : Int)), (sb, 1)] = 1 := by unfold plc; simp [lt_ab, klt_irr]
  rw [hpl]
  go_wp2_with fail
  refine (OI.om_len H5.out).mono ?_
  rintro _ wz ⟨rfl, hw0⟩
  replace hw0 := hw0.symm
  subst hw0
  go_wp2
  go_ret
  exact ⟨rfl, HB5.out⟩
end Go.Proofs.Ytmapfbnfcbkjpaa
