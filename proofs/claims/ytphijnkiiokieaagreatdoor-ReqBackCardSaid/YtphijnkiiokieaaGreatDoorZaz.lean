/- What the listed variables give the walks: utf8's two tables, the table of powers of ten; and that the program's own start meets the condition. -/
import Derived.Test.YtphijnkiiokieaaGreatDoorZay
import Derived.Test.YtphijnkiiokieaaGreatDoorZaj
import Derived.Handed
import Derived.HandedShaped
import Derived.Shelf.Vars
import Derived.KernelRfl
import Derived.Test.YtphijnkiiokieaaGreatDoorRows
import Derived.Test.YtphijnkiiokieaaGreatDoorZam
import Derived.LaidMore
import Derived.PinnedBridge
import Derived.Lay
import Derived.Lib.LaidIn
import Derived.Lib.LaidTab
import Derived.Lib.LaidU8T
import Derived.MakeChecks
import Derived.Stop.Joined
import Derived.Stop.LaidErr
/- ReqBack: encoded and decoded, and the other way about. -/
namespace Go.Proofs.YtphijnkiiokieaaGreatDoor
open Go.RowKit
open Go.Lib hiding intOf
set_option linter.unusedVariables false
set_option linter.unusedSimpArgs false
set_option maxRecDepth 100000
theorem decQ_cases (k : Int) (l : List UInt8) : (∃ c, c ≠ 0 ∧ decQ k l = (rqZ, c)) ∨ (decQ k l = ((rawQ k l).1, 0) ∧ checkQ (rawQ k l).1 = 0 ∧ bytesQ (rawQ k l).1 = l ∧ (rawQ k l).1.k = k ∧ WfQ (rawQ k l).1 ∧ SzQ (rawQ k l).1) := by
  unfold decQ
  by_cases h1 : kindB k = false
  · rw [if_pos h1]; exact .inl ⟨12, by decide, rfl⟩
  · rw [if_neg h1]
    by_cases h2 : donQ k l = false
    · rw [if_pos h2]; exact .inl ⟨1, by decide, rfl⟩
    · rw [if_neg h2]
      by_cases h3 : checkQ (rawQ k l).1 ≠ 0
      · rw [if_pos h3]; exact .inl ⟨_, h3, rfl⟩
      · rw [if_neg h3]
        have h4 := rawQ_ok (by simpa using h2)
        exact .inr ⟨rfl, Classical.not_not.1 h3, h4.1, h4.2.2, raw_fit k l⟩
set_option maxHeartbeats 32000000 in
theorem qback_law {w : World} {A B : Option Addr} {len cap b off lenB capB bb ob : Nat} {xs : List Opn} {l : List UInt8} (h : Ops w A len cap b off xs) (k : Int) (t co u c : ByteArray) (ck cv : Int) (tok mo ti : Int) (hs : len ≤ maxLen) (hw : WfQ ⟨k, t, co, u, c, ck, cv, xs, tok, mo, ti⟩) (hEw : Env w) (kd : Int) (hy : Byt w B lenB capB bb ob l) :
    Calls Tryz.prog 4 #[.agg #[.int .i64 k, .string t, .string co, .string u, .string c, .int .i64 ck, .int .i64 cv, .slice A len cap, .int .i64 tok, .int .i64 mo, .int .i64 ti], .int .i64 kd, .slice B lenB capB] w fun r w' => r = .returned (.bool true) ∧ Below w.heap.size w w' := by
  have HX0 := Lib.hid ((Bxs.start w).new 26 #[.int .i64 k, .string t, .string co, .string u, .string c, .int .i64 ck, .int .i64 cv, .slice A len cap, .int .i64 tok, .int .i64 mo, .int .i64 ti])
  have HF := Lib.hid (fun W (hb : Below w.heap.size w W) => first12_any W (hEw.on hb))
  have HL := Lib.hid (fun W (hb : Below w.heap.size w W) => qlight_raw (h.on hb) k t co u c ck cv tok mo ti hs)
  have HE := Lib.hid (fun W (hb : Below w.heap.size w W) => hEw.on hb)
  have HY := Lib.hid (fun W (hb : Below w.heap.size w W) => hy.on hb)
  have hyl := hy.hlen
  obtain ⟨lt, hlt⟩ : ∃ r, lightQ ⟨k, t, co, u, c, ck, cv, xs, tok, mo, ti⟩ = r := ⟨_, rfl⟩
  rw [hlt] at HL
  cases lt with
  | false =>
    clear h hEw hlt hw hy
    go_enter Tryz.func4, Tryz.ntmps4
    go_wp2_with fail
    refine (HF.out _ HX0.out.bel).mono ?_
    rintro _ w1 ⟨rfl, hb⟩
    have HX1 := Lib.hid (HX0.out.step hb)
    clear hb
    have a_0 := (HX1.out.get 0 rfl).cell 0
    have a_1 := (HX1.out.get 0 rfl).cell 1
    have a_2 := (HX1.out.get 0 rfl).cell 2
    have a_3 := (HX1.out.get 0 rfl).cell 3
    have a_4 := (HX1.out.get 0 rfl).cell 4
    have a_5 := (HX1.out.get 0 rfl).cell 5
    have a_6 := (HX1.out.get 0 rfl).cell 6
    have a_7 := (HX1.out.get 0 rfl).cell 7
    have a_8 := (HX1.out.get 0 rfl).cell 8
    have a_9 := (HX1.out.get 0 rfl).cell 9
    have a_10 := (HX1.out.get 0 rfl).cell 10
    simp only [List.getElem?_toArray, List.getElem?_cons_zero, List.getElem?_cons_succ] at a_0 a_1 a_2 a_3 a_4 a_5 a_6 a_7 a_8 a_9 a_10
    go_wp2_with fail
    refine (HL.out _ HX1.out.bel).mono ?_
    rintro _ w2 ⟨rfl, hb⟩
    have HX2 := Lib.hid (HX1.out.step hb)
    clear hb
    go_wp2_with fail
    refine (HF.out _ HX2.out.bel).mono ?_
    rintro _ w3 ⟨rfl, hb⟩
    have HXE := Lib.hid (HX2.out.step hb)
    clear hb
    go_wp2
    go_ret
    exact ⟨rfl, HXE.out.bel⟩
  | true =>
    have hz := sz_light hlt
    have HEN := Lib.hid (fun W (hb : Below w.heap.size w W) => qencode_raw (h.on hb) k t co u c ck cv tok mo ti hz hw (hEw.on hb))
    have HCQ := Lib.hid (fun W (hb : Below w.heap.size w W) => qcheck_raw (h.on hb) k t co u c ck cv tok mo ti hz (hEw.on hb))
    have HOP := Lib.hid (fun W (hb : Below w.heap.size w W) => h.on hb)
    have HBL := Lib.hid (fun h0 => bytesQ_len (fnq_of (q := ⟨k, t, co, u, c, ck, cv, xs, tok, mo, ti⟩) h0 hw))
    have HDQ := Lib.hid (fun h0 => decQ_enc (q := ⟨k, t, co, u, c, ck, cv, xs, tok, mo, ti⟩) h0 hw)
    have hxl := h.hlen
    obtain ⟨cr, hcr⟩ : ∃ r, checkQ ⟨k, t, co, u, c, ck, cv, xs, tok, mo, ti⟩ = r := ⟨_, rfl⟩
    rw [hcr] at HEN HCQ HBL HDQ
    obtain ⟨BS, hBS⟩ : ∃ x, bytesQ ⟨k, t, co, u, c, ck, cv, xs, tok, mo, ti⟩ = x := ⟨_, rfl⟩
    rw [hBS] at HEN HBL HDQ
    have hnn : len ≤ 1000000 := by have := hz.n; simp only at this; omega
    clear h hEw hlt hz hw hcr hBS
    by_cases hbig : (lenB : Int) > 1500
    · clear hy
      go_enter Tryz.func4, Tryz.ntmps4
      go_wp2_with fail
      refine (HF.out _ HX0.out.bel).mono ?_
      rintro _ w1 ⟨rfl, hb⟩
      have HX1 := Lib.hid (HX0.out.step hb)
      clear hb
      have a_0 := (HX1.out.get 0 rfl).cell 0
      have a_1 := (HX1.out.get 0 rfl).cell 1
      have a_2 := (HX1.out.get 0 rfl).cell 2
      have a_3 := (HX1.out.get 0 rfl).cell 3
      have a_4 := (HX1.out.get 0 rfl).cell 4
      have a_5 := (HX1.out.get 0 rfl).cell 5
      have a_6 := (HX1.out.get 0 rfl).cell 6
      have a_7 := (HX1.out.get 0 rfl).cell 7
      have a_8 := (HX1.out.get 0 rfl).cell 8
      have a_9 := (HX1.out.get 0 rfl).cell 9
      have a_10 := (HX1.out.get 0 rfl).cell 10
      simp only [List.getElem?_toArray, List.getElem?_cons_zero, List.getElem?_cons_succ] at a_0 a_1 a_2 a_3 a_4 a_5 a_6 a_7 a_8 a_9 a_10
      go_wp2_with fail
      refine (HL.out _ HX1.out.bel).mono ?_
      rintro _ w2 ⟨rfl, hb⟩
      have HX2 := Lib.hid (HX1.out.step hb)
      clear hb
      go_wp2_with fail
      refine (HF.out _ HX2.out.bel).mono ?_
      rintro _ w3 ⟨rfl, hb⟩
      have HXE := Lib.hid (HX2.out.step hb)
      clear hb
      go_wp2
      go_ret
      exact ⟨rfl, HXE.out.bel⟩
    have hl1 : l.length ≤ 1000000 := by omega
    have HDE := Lib.hid (fun W (hb : Below w.heap.size w W) => qdec_any (HY.out W hb) hl1 kd (HE.out W hb))
    clear hy
    rcases decQ_cases kd l with ⟨dc, hdc, hd⟩ | ⟨hd, hck, hby, hkd, hwf, hsz⟩
    · rw [hd] at HDE
      unfold DecQ at HDE
      simp only [rqV, rqZ, List.length_nil, bE] at HDE
      have hdb : (dc == 0) = false := by simpa using hdc
      clear hd hdc
      go_enter Tryz.func4, Tryz.ntmps4
      go_wp2_with fail
      refine (HF.out _ HX0.out.bel).mono ?_
      rintro _ w1 ⟨rfl, hb⟩
      have HX1 := Lib.hid (HX0.out.step hb)
      clear hb
      have a_0 := (HX1.out.get 0 rfl).cell 0
      have a_1 := (HX1.out.get 0 rfl).cell 1
      have a_2 := (HX1.out.get 0 rfl).cell 2
      have a_3 := (HX1.out.get 0 rfl).cell 3
      have a_4 := (HX1.out.get 0 rfl).cell 4
      have a_5 := (HX1.out.get 0 rfl).cell 5
      have a_6 := (HX1.out.get 0 rfl).cell 6
      have a_7 := (HX1.out.get 0 rfl).cell 7
      have a_8 := (HX1.out.get 0 rfl).cell 8
      have a_9 := (HX1.out.get 0 rfl).cell 9
      have a_10 := (HX1.out.get 0 rfl).cell 10
      simp only [List.getElem?_toArray, List.getElem?_cons_zero, List.getElem?_cons_succ] at a_0 a_1 a_2 a_3 a_4 a_5 a_6 a_7 a_8 a_9 a_10
      go_wp2_with fail
      refine (HL.out _ HX1.out.bel).mono ?_
      rintro _ w2 ⟨rfl, hb⟩
      have HX2 := Lib.hid (HX1.out.step hb)
      clear hb
      have p_0 := (HX2.out.get 0 rfl).cell 0
      have p_1 := (HX2.out.get 0 rfl).cell 1
      have p_2 := (HX2.out.get 0 rfl).cell 2
      have p_3 := (HX2.out.get 0 rfl).cell 3
      have p_4 := (HX2.out.get 0 rfl).cell 4
      have p_5 := (HX2.out.get 0 rfl).cell 5
      have p_6 := (HX2.out.get 0 rfl).cell 6
      have p_7 := (HX2.out.get 0 rfl).cell 7
      have p_8 := (HX2.out.get 0 rfl).cell 8
      have p_9 := (HX2.out.get 0 rfl).cell 9
      have p_10 := (HX2.out.get 0 rfl).cell 10
      simp only [List.getElem?_toArray, List.getElem?_cons_zero, List.getElem?_cons_succ] at p_0 p_1 p_2 p_3 p_4 p_5 p_6 p_7 p_8 p_9 p_10
      go_wp2_with fail
      refine (HDE.out _ HX2.out.bel).mono ?_
      rintro _ y1 ⟨A8, cap8, b8, rfl, hI, hB, hb⟩
      have HX3 := Lib.hid ((HX2.out.step hb).new 26 #[.int .i64 0, .string ⟨#[]⟩, .string ⟨#[]⟩, .string ⟨#[]⟩, .string ⟨#[]⟩, .int .i64 0, .int .i64 0, .slice A8 0 cap8, .int .i64 0, .int .i64 0, .int .i64 0])
      have hI0 := hI.on ((Below.refl _ _).alloc (Nat.le_refl _) (.cells #[.int .i64 0, .string ⟨#[]⟩, .string ⟨#[]⟩, .string ⟨#[]⟩, .string ⟨#[]⟩, .int .i64 0, .int .i64 0, .slice A8 0 cap8, .int .i64 0, .int .i64 0, .int .i64 0] 26))
      have HS0 := Lib.hid (qsame_raw hI0 (ops_none _) (by decide) 0 ⟨#[]⟩ ⟨#[]⟩ ⟨#[]⟩ ⟨#[]⟩ 0 0 0 0 0)
      clear hI hI0 hB hb
      have q_0 := (HX3.out.get 0 rfl).cell 0
      have q_1 := (HX3.out.get 0 rfl).cell 1
      have q_2 := (HX3.out.get 0 rfl).cell 2
      have q_3 := (HX3.out.get 0 rfl).cell 3
      have q_4 := (HX3.out.get 0 rfl).cell 4
      have q_5 := (HX3.out.get 0 rfl).cell 5
      have q_6 := (HX3.out.get 0 rfl).cell 6
      have q_7 := (HX3.out.get 0 rfl).cell 7
      have q_8 := (HX3.out.get 0 rfl).cell 8
      have q_9 := (HX3.out.get 0 rfl).cell 9
      have q_10 := (HX3.out.get 0 rfl).cell 10
      simp only [List.getElem?_toArray, List.getElem?_cons_zero, List.getElem?_cons_succ] at q_0 q_1 q_2 q_3 q_4 q_5 q_6 q_7 q_8 q_9 q_10
      go_wp2_with fail
      refine HS0.out.mono ?_
      rintro _ y2 ⟨rfl, hb⟩
      have HX4 := Lib.hid (HX3.out.step hb)
      clear hb
      have r_0 := (HX4.out.get 0 rfl).cell 0
      have r_1 := (HX4.out.get 0 rfl).cell 1
      have r_2 := (HX4.out.get 0 rfl).cell 2
      have r_3 := (HX4.out.get 0 rfl).cell 3
      have r_4 := (HX4.out.get 0 rfl).cell 4
      have r_5 := (HX4.out.get 0 rfl).cell 5
      have r_6 := (HX4.out.get 0 rfl).cell 6
      have r_7 := (HX4.out.get 0 rfl).cell 7
      have r_8 := (HX4.out.get 0 rfl).cell 8
      have r_9 := (HX4.out.get 0 rfl).cell 9
      have r_10 := (HX4.out.get 0 rfl).cell 10
      simp only [List.getElem?_toArray, List.getElem?_cons_zero, List.getElem?_cons_succ] at r_0 r_1 r_2 r_3 r_4 r_5 r_6 r_7 r_8 r_9 r_10
      go_wp2_with fail
      refine (HEN.out _ HX4.out.bel).mono ?_
      rintro _ z1 ⟨v, rfl, hnil, hown, hb⟩
      have HXZ := Lib.hid (HX4.out.step hb)
      have z_0 := (HXZ.out.get 0 rfl).cell 0
      have z_1 := (HXZ.out.get 0 rfl).cell 1
      have z_2 := (HXZ.out.get 0 rfl).cell 2
      have z_3 := (HXZ.out.get 0 rfl).cell 3
      have z_4 := (HXZ.out.get 0 rfl).cell 4
      have z_5 := (HXZ.out.get 0 rfl).cell 5
      have z_6 := (HXZ.out.get 0 rfl).cell 6
      have z_7 := (HXZ.out.get 0 rfl).cell 7
      have z_8 := (HXZ.out.get 0 rfl).cell 8
      have z_9 := (HXZ.out.get 0 rfl).cell 9
      have z_10 := (HXZ.out.get 0 rfl).cell 10
      simp only [List.getElem?_toArray, List.getElem?_cons_zero, List.getElem?_cons_succ] at z_0 z_1 z_2 z_3 z_4 z_5 z_6 z_7 z_8 z_9 z_10
      by_cases hc0 : cr = 0
      · subst hc0
        have HOW := Lib.hid (hown (by trivial))
        have hbl := HBL.out rfl
        have hdq := HDQ.out rfl
        obtain ⟨A7, cap7, b7, rfl, hy7⟩ := HOW.out.byt
        have HD2 := Lib.hid (qdec_any hy7 (by omega) k (HE.out _ HXZ.out.bel))
        rw [hdq] at HD2
        unfold DecQ at HD2
        simp only [rqV] at HD2
        clear hnil hown hb hy7 hdq HDE
        go_wp2_with fail
        refine HD2.out.mono ?_
        rintro _ z2 ⟨A5, cap5, b5, rfl, hI, hB, hb⟩
        have HXY := Lib.hid (HXZ.out.step hb)
        have HXV := Lib.hid (HXY.out.new 26 #[.int .i64 k, .string t, .string co, .string u, .string c, .int .i64 ck, .int .i64 cv, .slice A5 xs.length cap5, .int .i64 tok, .int .i64 mo, .int .i64 ti])
        have HSM := Lib.hid (qsame_raw (hI.on ((Below.refl _ _).alloc (Nat.le_refl _) (.cells #[.int .i64 k, .string t, .string co, .string u, .string c, .int .i64 ck, .int .i64 cv, .slice A5 xs.length cap5, .int .i64 tok, .int .i64 mo, .int .i64 ti] 26))) (show Ops _ A xs.length cap b off xs from by have := HOP.out _ HXV.out.bel; rwa [← hxl] at this) (by omega) k t co u c ck cv tok mo ti)
        rw [hxl] at HSM HXV
        try rw [hxl]
        clear hI hB hb
        have y_0 := (HXV.out.get 0 rfl).cell 0
        have y_1 := (HXV.out.get 0 rfl).cell 1
        have y_2 := (HXV.out.get 0 rfl).cell 2
        have y_3 := (HXV.out.get 0 rfl).cell 3
        have y_4 := (HXV.out.get 0 rfl).cell 4
        have y_5 := (HXV.out.get 0 rfl).cell 5
        have y_6 := (HXV.out.get 0 rfl).cell 6
        have y_7 := (HXV.out.get 0 rfl).cell 7
        have y_8 := (HXV.out.get 0 rfl).cell 8
        have y_9 := (HXV.out.get 0 rfl).cell 9
        have y_10 := (HXV.out.get 0 rfl).cell 10
        simp only [List.getElem?_toArray, List.getElem?_cons_zero, List.getElem?_cons_succ] at y_0 y_1 y_2 y_3 y_4 y_5 y_6 y_7 y_8 y_9 y_10
        go_wp2_with fail
        refine HSM.out.mono ?_
        rintro _ z3 ⟨rfl, hb⟩
        have HXU := Lib.hid (HXV.out.step hb)
        clear hb
        have x_0 := (HXU.out.get 0 rfl).cell 0
        have x_1 := (HXU.out.get 0 rfl).cell 1
        have x_2 := (HXU.out.get 0 rfl).cell 2
        have x_3 := (HXU.out.get 0 rfl).cell 3
        have x_4 := (HXU.out.get 0 rfl).cell 4
        have x_5 := (HXU.out.get 0 rfl).cell 5
        have x_6 := (HXU.out.get 0 rfl).cell 6
        have x_7 := (HXU.out.get 0 rfl).cell 7
        have x_8 := (HXU.out.get 0 rfl).cell 8
        have x_9 := (HXU.out.get 0 rfl).cell 9
        have x_10 := (HXU.out.get 0 rfl).cell 10
        simp only [List.getElem?_toArray, List.getElem?_cons_zero, List.getElem?_cons_succ] at x_0 x_1 x_2 x_3 x_4 x_5 x_6 x_7 x_8 x_9 x_10
        go_wp2_with fail
        refine (HCQ.out _ HXU.out.bel).mono ?_
        rintro _ z4 ⟨rfl, hb⟩
        have HXT := Lib.hid (HXU.out.step hb)
        clear hb
        go_wp2
        go_ret
        exact ⟨rfl, HXT.out.bel⟩
      · have d0 : (cr != 0) = true := by simpa using hc0
        obtain rfl := hnil hc0
        clear hown hb hc0 hnil HDE
        go_wp2_with fail
        refine (HCQ.out _ HXZ.out.bel).mono ?_
        rintro _ z2 ⟨rfl, hb⟩
        have HXY := Lib.hid (HXZ.out.step hb)
        clear hb
        go_wp2
        go_ret
        exact ⟨rfl, HXY.out.bel⟩
    · obtain ⟨PQ, hPQ⟩ : ∃ z, (rawQ kd l).1 = z := ⟨_, rfl⟩
      rw [hPQ] at hd hck hby hkd hwf hsz
      clear hPQ
      obtain ⟨pk, pt, pco, pu, pc, pck, pcv, pops, ptok, pmo, pti⟩ := PQ
      obtain rfl : pk = kd := hkd
      rw [hd] at HDE
      unfold DecQ at HDE
      simp only [rqV] at HDE
      have HEP := Lib.hid (fun W A cap b (hb : Below w.heap.size w W) (hO : Ops W A pops.length cap b 0 pops) => qencode_raw hO pk pt pco pu pc pck pcv ptok pmo pti hsz hwf (HE.out W hb))
      have HCP := Lib.hid (fun W A cap b (hb : Below w.heap.size w W) (hO : Ops W A pops.length cap b 0 pops) => qcheck_raw hO pk pt pco pu pc pck pcv ptok pmo pti hsz (HE.out W hb))
      rw [hck, hby] at HEP
      rw [hck] at HCP
      clear hd hck hby hwf hsz
      go_enter Tryz.func4, Tryz.ntmps4
      go_wp2_with fail
      refine (HF.out _ HX0.out.bel).mono ?_
      rintro _ w1 ⟨rfl, hb⟩
      have HX1 := Lib.hid (HX0.out.step hb)
      clear hb
      have a_0 := (HX1.out.get 0 rfl).cell 0
      have a_1 := (HX1.out.get 0 rfl).cell 1
      have a_2 := (HX1.out.get 0 rfl).cell 2
      have a_3 := (HX1.out.get 0 rfl).cell 3
      have a_4 := (HX1.out.get 0 rfl).cell 4
      have a_5 := (HX1.out.get 0 rfl).cell 5
      have a_6 := (HX1.out.get 0 rfl).cell 6
      have a_7 := (HX1.out.get 0 rfl).cell 7
      have a_8 := (HX1.out.get 0 rfl).cell 8
      have a_9 := (HX1.out.get 0 rfl).cell 9
      have a_10 := (HX1.out.get 0 rfl).cell 10
      simp only [List.getElem?_toArray, List.getElem?_cons_zero, List.getElem?_cons_succ] at a_0 a_1 a_2 a_3 a_4 a_5 a_6 a_7 a_8 a_9 a_10
      go_wp2_with fail
      refine (HL.out _ HX1.out.bel).mono ?_
      rintro _ w2 ⟨rfl, hb⟩
      have HX2 := Lib.hid (HX1.out.step hb)
      clear hb
      have p_0 := (HX2.out.get 0 rfl).cell 0
      have p_1 := (HX2.out.get 0 rfl).cell 1
      have p_2 := (HX2.out.get 0 rfl).cell 2
      have p_3 := (HX2.out.get 0 rfl).cell 3
      have p_4 := (HX2.out.get 0 rfl).cell 4
      have p_5 := (HX2.out.get 0 rfl).cell 5
      have p_6 := (HX2.out.get 0 rfl).cell 6
      have p_7 := (HX2.out.get 0 rfl).cell 7
      have p_8 := (HX2.out.get 0 rfl).cell 8
      have p_9 := (HX2.out.get 0 rfl).cell 9
      have p_10 := (HX2.out.get 0 rfl).cell 10
      simp only [List.getElem?_toArray, List.getElem?_cons_zero, List.getElem?_cons_succ] at p_0 p_1 p_2 p_3 p_4 p_5 p_6 p_7 p_8 p_9 p_10
      go_wp2_with fail
      refine (HDE.out _ HX2.out.bel).mono ?_
      rintro _ y1 ⟨A8, cap8, b8, rfl, hI, hB, hb⟩
      have HX3 := Lib.hid ((HX2.out.step hb).new 26 #[.int .i64 pk, .string pt, .string pco, .string pu, .string pc, .int .i64 pck, .int .i64 pcv, .slice A8 pops.length cap8, .int .i64 ptok, .int .i64 pmo, .int .i64 pti])
      have HI3 := Lib.hid (hI.on ((Below.refl _ _).alloc (Nat.le_refl _) (.cells #[.int .i64 pk, .string pt, .string pco, .string pu, .string pc, .int .i64 pck, .int .i64 pcv, .slice A8 pops.length cap8, .int .i64 ptok, .int .i64 pmo, .int .i64 pti] 26)))
      clear hI hB hb
      have q0_0 := (HX3.out.get 0 rfl).cell 0
      have q0_1 := (HX3.out.get 0 rfl).cell 1
      have q0_2 := (HX3.out.get 0 rfl).cell 2
      have q0_3 := (HX3.out.get 0 rfl).cell 3
      have q0_4 := (HX3.out.get 0 rfl).cell 4
      have q0_5 := (HX3.out.get 0 rfl).cell 5
      have q0_6 := (HX3.out.get 0 rfl).cell 6
      have q0_7 := (HX3.out.get 0 rfl).cell 7
      have q0_8 := (HX3.out.get 0 rfl).cell 8
      have q0_9 := (HX3.out.get 0 rfl).cell 9
      have q0_10 := (HX3.out.get 0 rfl).cell 10
      simp only [List.getElem?_toArray, List.getElem?_cons_zero, List.getElem?_cons_succ] at q0_0 q0_1 q0_2 q0_3 q0_4 q0_5 q0_6 q0_7 q0_8 q0_9 q0_10
      have q1_0 := (HX3.out.get 1 rfl).cell 0
      have q1_1 := (HX3.out.get 1 rfl).cell 1
      have q1_2 := (HX3.out.get 1 rfl).cell 2
      have q1_3 := (HX3.out.get 1 rfl).cell 3
      have q1_4 := (HX3.out.get 1 rfl).cell 4
      have q1_5 := (HX3.out.get 1 rfl).cell 5
      have q1_6 := (HX3.out.get 1 rfl).cell 6
      have q1_7 := (HX3.out.get 1 rfl).cell 7
      have q1_8 := (HX3.out.get 1 rfl).cell 8
      have q1_9 := (HX3.out.get 1 rfl).cell 9
      have q1_10 := (HX3.out.get 1 rfl).cell 10
      simp only [List.getElem?_toArray, List.getElem?_cons_zero, List.getElem?_cons_succ] at q1_0 q1_1 q1_2 q1_3 q1_4 q1_5 q1_6 q1_7 q1_8 q1_9 q1_10
      go_wp2_with fail
      refine (HEP.out _ _ _ _ HX3.out.bel HI3.out).mono ?_
      rintro _ y2 ⟨v, rfl, _, hown, hb⟩
      have HX4 := Lib.hid (HX3.out.step hb)
      have HI4 := Lib.hid (HI3.out.on hb)
      have HT1 := own_text (hown (by trivial))
      have HT2 := byt_text (HY.out _ HX4.out.bel)
      clear hown hb
      have r0_0 := (HX4.out.get 0 rfl).cell 0
      have r0_1 := (HX4.out.get 0 rfl).cell 1
      have r0_2 := (HX4.out.get 0 rfl).cell 2
      have r0_3 := (HX4.out.get 0 rfl).cell 3
      have r0_4 := (HX4.out.get 0 rfl).cell 4
      have r0_5 := (HX4.out.get 0 rfl).cell 5
      have r0_6 := (HX4.out.get 0 rfl).cell 6
      have r0_7 := (HX4.out.get 0 rfl).cell 7
      have r0_8 := (HX4.out.get 0 rfl).cell 8
      have r0_9 := (HX4.out.get 0 rfl).cell 9
      have r0_10 := (HX4.out.get 0 rfl).cell 10
      simp only [List.getElem?_toArray, List.getElem?_cons_zero, List.getElem?_cons_succ] at r0_0 r0_1 r0_2 r0_3 r0_4 r0_5 r0_6 r0_7 r0_8 r0_9 r0_10
      have r1_0 := (HX4.out.get 1 rfl).cell 0
      have r1_1 := (HX4.out.get 1 rfl).cell 1
      have r1_2 := (HX4.out.get 1 rfl).cell 2
      have r1_3 := (HX4.out.get 1 rfl).cell 3
      have r1_4 := (HX4.out.get 1 rfl).cell 4
      have r1_5 := (HX4.out.get 1 rfl).cell 5
      have r1_6 := (HX4.out.get 1 rfl).cell 6
      have r1_7 := (HX4.out.get 1 rfl).cell 7
      have r1_8 := (HX4.out.get 1 rfl).cell 8
      have r1_9 := (HX4.out.get 1 rfl).cell 9
      have r1_10 := (HX4.out.get 1 rfl).cell 10
      simp only [List.getElem?_toArray, List.getElem?_cons_zero, List.getElem?_cons_succ] at r1_0 r1_1 r1_2 r1_3 r1_4 r1_5 r1_6 r1_7 r1_8 r1_9 r1_10
      go_wp2_with fail
      refine (HCP.out _ _ _ _ HX4.out.bel HI4.out).mono ?_
      rintro _ y3 ⟨rfl, hb⟩
      have HX5 := Lib.hid (HX4.out.step hb)
      clear hb HT1 HT2
      have s_0 := (HX5.out.get 0 rfl).cell 0
      have s_1 := (HX5.out.get 0 rfl).cell 1
      have s_2 := (HX5.out.get 0 rfl).cell 2
      have s_3 := (HX5.out.get 0 rfl).cell 3
      have s_4 := (HX5.out.get 0 rfl).cell 4
      have s_5 := (HX5.out.get 0 rfl).cell 5
      have s_6 := (HX5.out.get 0 rfl).cell 6
      have s_7 := (HX5.out.get 0 rfl).cell 7
      have s_8 := (HX5.out.get 0 rfl).cell 8
      have s_9 := (HX5.out.get 0 rfl).cell 9
      have s_10 := (HX5.out.get 0 rfl).cell 10
      simp only [List.getElem?_toArray, List.getElem?_cons_zero, List.getElem?_cons_succ] at s_0 s_1 s_2 s_3 s_4 s_5 s_6 s_7 s_8 s_9 s_10
      go_wp2_with fail
      refine (HEN.out _ HX5.out.bel).mono ?_
      rintro _ z1 ⟨v, rfl, hnil, hown, hb⟩
      have HXZ := Lib.hid (HX5.out.step hb)
      have z_0 := (HXZ.out.get 0 rfl).cell 0
      have z_1 := (HXZ.out.get 0 rfl).cell 1
      have z_2 := (HXZ.out.get 0 rfl).cell 2
      have z_3 := (HXZ.out.get 0 rfl).cell 3
      have z_4 := (HXZ.out.get 0 rfl).cell 4
      have z_5 := (HXZ.out.get 0 rfl).cell 5
      have z_6 := (HXZ.out.get 0 rfl).cell 6
      have z_7 := (HXZ.out.get 0 rfl).cell 7
      have z_8 := (HXZ.out.get 0 rfl).cell 8
      have z_9 := (HXZ.out.get 0 rfl).cell 9
      have z_10 := (HXZ.out.get 0 rfl).cell 10
      simp only [List.getElem?_toArray, List.getElem?_cons_zero, List.getElem?_cons_succ] at z_0 z_1 z_2 z_3 z_4 z_5 z_6 z_7 z_8 z_9 z_10
      by_cases hc0 : cr = 0
      · subst hc0
        have HOW := Lib.hid (hown (by trivial))
        have hbl := HBL.out rfl
        have hdq := HDQ.out rfl
        obtain ⟨A7, cap7, b7, rfl, hy7⟩ := HOW.out.byt
        have HD2 := Lib.hid (qdec_any hy7 (by omega) k (HE.out _ HXZ.out.bel))
        rw [hdq] at HD2
        unfold DecQ at HD2
        simp only [rqV] at HD2
        clear hnil hown hb hy7 hdq HDE
        go_wp2_with fail
        refine HD2.out.mono ?_
        rintro _ z2 ⟨A5, cap5, b5, rfl, hI, hB, hb⟩
        have HXY := Lib.hid (HXZ.out.step hb)
        have HXV := Lib.hid (HXY.out.new 26 #[.int .i64 k, .string t, .string co, .string u, .string c, .int .i64 ck, .int .i64 cv, .slice A5 xs.length cap5, .int .i64 tok, .int .i64 mo, .int .i64 ti])
        have HSM := Lib.hid (qsame_raw (hI.on ((Below.refl _ _).alloc (Nat.le_refl _) (.cells #[.int .i64 k, .string t, .string co, .string u, .string c, .int .i64 ck, .int .i64 cv, .slice A5 xs.length cap5, .int .i64 tok, .int .i64 mo, .int .i64 ti] 26))) (show Ops _ A xs.length cap b off xs from by have := HOP.out _ HXV.out.bel; rwa [← hxl] at this) (by omega) k t co u c ck cv tok mo ti)
        rw [hxl] at HSM HXV
        try rw [hxl]
        clear hI hB hb
        have y_0 := (HXV.out.get 0 rfl).cell 0
        have y_1 := (HXV.out.get 0 rfl).cell 1
        have y_2 := (HXV.out.get 0 rfl).cell 2
        have y_3 := (HXV.out.get 0 rfl).cell 3
        have y_4 := (HXV.out.get 0 rfl).cell 4
        have y_5 := (HXV.out.get 0 rfl).cell 5
        have y_6 := (HXV.out.get 0 rfl).cell 6
        have y_7 := (HXV.out.get 0 rfl).cell 7
        have y_8 := (HXV.out.get 0 rfl).cell 8
        have y_9 := (HXV.out.get 0 rfl).cell 9
        have y_10 := (HXV.out.get 0 rfl).cell 10
        simp only [List.getElem?_toArray, List.getElem?_cons_zero, List.getElem?_cons_succ] at y_0 y_1 y_2 y_3 y_4 y_5 y_6 y_7 y_8 y_9 y_10
        go_wp2_with fail
        refine HSM.out.mono ?_
        rintro _ z3 ⟨rfl, hb⟩
        have HXU := Lib.hid (HXV.out.step hb)
        clear hb
        have x_0 := (HXU.out.get 0 rfl).cell 0
        have x_1 := (HXU.out.get 0 rfl).cell 1
        have x_2 := (HXU.out.get 0 rfl).cell 2
        have x_3 := (HXU.out.get 0 rfl).cell 3
        have x_4 := (HXU.out.get 0 rfl).cell 4
        have x_5 := (HXU.out.get 0 rfl).cell 5
        have x_6 := (HXU.out.get 0 rfl).cell 6
        have x_7 := (HXU.out.get 0 rfl).cell 7
        have x_8 := (HXU.out.get 0 rfl).cell 8
        have x_9 := (HXU.out.get 0 rfl).cell 9
        have x_10 := (HXU.out.get 0 rfl).cell 10
        simp only [List.getElem?_toArray, List.getElem?_cons_zero, List.getElem?_cons_succ] at x_0 x_1 x_2 x_3 x_4 x_5 x_6 x_7 x_8 x_9 x_10
        go_wp2_with fail
        refine (HCQ.out _ HXU.out.bel).mono ?_
        rintro _ z4 ⟨rfl, hb⟩
        have HXT := Lib.hid (HXU.out.step hb)
        clear hb
        go_wp2
        go_ret
        exact ⟨rfl, HXT.out.bel⟩
      · have d0 : (cr != 0) = true := by simpa using hc0
        obtain rfl := hnil hc0
        clear hown hb hc0 hnil HDE
        go_wp2_with fail
        refine (HCQ.out _ HXZ.out.bel).mono ?_
        rintro _ z2 ⟨rfl, hb⟩
        have HXY := Lib.hid (HXZ.out.step hb)
        clear hb
        go_wp2
        go_ret
        exact ⟨rfl, HXY.out.bel⟩
theorem reqBack_walk (w : World) (hTD : Tabs w ∧ Day.Tab w.heap.size w) (hM : Mx w) (a0 : Int) (w0 : (Lit.int .i64 a0).wf = true) (a1 : ByteArray) (w1 : a1.size ≤ maxLen) (a2 : ByteArray) (w2 : a2.size ≤ maxLen) (a3 : ByteArray) (w3 : a3.size ≤ maxLen) (a4 : ByteArray) (w4 : a4.size ≤ maxLen) (a5 : Int) (w5 : (Lit.int .i64 a5).wf = true) (a6 : Int) (w6 : (Lit.int .i64 a6).wf = true) (A7 : Option Addr) (len7 cap7 : Nat) (S7 : Sh.ok w (Sh.slice 5 shOp) [.slice A7 len7 cap7]) (a8 : Int) (w8 : (Lit.int .i64 a8).wf = true) (a9 : Int) (w9 : (Lit.int .i64 a9).wf = true) (a10 : Int) (w10 : (Lit.int .i64 a10).wf = true) (a11 : Int) (w11 : (Lit.int .i64 a11).wf = true) (A12 : Option Addr) (len12 cap12 : Nat) (S12 : Sh.ok w (Sh.slice 1 (Sh.int .u8)) [.slice A12 len12 cap12]) :
    Calls Tryz.prog 4 #[.agg #[.int .i64 a0, .string a1, .string a2, .string a3, .string a4, .int .i64 a5, .int .i64 a6, .slice A7 len7 cap7, .int .i64 a8, .int .i64 a9, .int .i64 a10], .int .i64 a11, .slice A12 len12 cap12] w fun e w' => e = .returned (.bool true) ∧ Below w.heap.size w w' := by
  obtain ⟨b, off, xs, hO, hwf, hl⟩ := ops_open S7
  obtain ⟨bb, ob, l, hb⟩ := byt_open S12
  exact qback_law hO a0 a1 a2 a3 a4 a5 a6 a8 a9 a10 hl ⟨(wf_range w6).2, (wf_range w8).2, (wf_range w9).2, (wf_range w10).2, (wf_range w5).2, hwf⟩ ⟨hTD.1, hM, hTD.2⟩ a11 hb
end Go.Proofs.YtphijnkiiokieaaGreatDoor
/- A law's row over listed variables that reads one of the library's besides: the world's shape is handed on. -/
namespace Go.Proofs.YtphijnkiiokieaaGreatDoor
open Go.ChangeShapes Go.WideShapes Go.RowKit
variable {H : Type} {enc : TypeId × Value → H}
theorem handed_and_shaped {a : Assume} {C : Checked} {os : Os} {f : FuncId} {fn : Func} {s : ChangeSpec} {conds : List PathCond} {apart fresh handsOn again : Bool} {X : World → Array Value → Prop}
    (hX : ∀ (w w' : World) (args : Array Value), w.heap = w'.heap → X w args → X w' args)
    (own : ownKnob C.prog.godebug = none) (started : os.Started) (noInit : C.prog.inits.idxOf? f = none) (hfn : C.prog.funcs[f]? = some fn)
    (witness : ∃ (w : World) (tape : Tape) (i : Input), w.os = os ∧ (w.forCall tape i).Shaped C.prog ∧ i.vars = [] ∧ Input.okWide C.prog (w.forCall tape i) .any w.heap.size f i ∧
      ((s.pre enc C.prog fn conds apart (w.forCall tape i).memory i.args ∧ X (w.forCall tape i).memory i.args) ∧ sizedMet enc C.prog fn (OpenSpec.ofChange s) apart (w.forCall tape i).memory i.args) ∧ a.holds C.prog (lone (Frame.enter C.prog f i.args .normal) [] (w.forCall tape i)))
    (contract : ∀ (W : World) (base : Nat) (args : Array Value) (ds gs : List (DataW H)) (before : List MemPlace),
      (∀ (j : Nat) t v, fn.params[j]? = some t → args[j]? = some v → Value.okWide C.prog W .any base t v) →
      DataW.Whole enc C.prog fn.params.toList s.vars apart W args.toList ds gs before →
      X W args → W.ShapedOpen C.prog →
      Calls C.prog f args W fun e W' => ∃ v, e = .returned v ∧ s.post enc C.prog fn apart fresh handsOn again W args v W') :
    ReturnsInHanded a C os f .any (fun w args => (s.pre enc C.prog fn conds apart w args ∧ X w args) ∧ sizedMet enc C.prog fn (OpenSpec.ofChange s) apart w args) (s.post enc C.prog fn apart fresh handsOn again) := by
  refine returnsInHanded_of_calls own started noInit witness ?_
  intro w tape i _ hsh _ hok hpre _
  obtain ⟨_, _, _, fn', hfn', _, _, _, _, hval⟩ := hok
  have e : fn' = fn := Option.some.inj (hfn'.symm.trans hfn)
  subst e
  obtain ⟨⟨⟨ds, gs, before, hw, _⟩, hx⟩, _⟩ := hpre
  have hw' := DataW.Whole.of_heap (w' := w.forCall tape i) (by rfl) hw
  refine (contract (w.forCall tape i) w.heap.size i.args ds gs before hval hw' (hX _ _ _ (by rfl) hx) hsh).mono fun e W' ⟨v, he, hp⟩ => ?_
  subst he
  exact ChangeSpec.post_blind hp
set_option maxRecDepth 100000 in
theorem mx_of {W : World} (h : W.ShapedOpen Tryz.prog) : Mx W :=
  cell_of_shapedOpen_int h (g := 0) (t := 3) (zero := #[.int .i64 0]) (of_decide_eq_true (by kernel_rfl)) (by kernel_rfl) rfl (by kernel_rfl) (by kernel_rfl) Tryz.underlying3
end Go.Proofs.YtphijnkiiokieaaGreatDoor
namespace Go.Proofs.YtphijnkiiokieaaGreatDoor
open Go.ChangeShapes Go.WideShapes Go.RowKit
abbrev laidL : List (String × DataW Unit) := [("math/bits.deBruijn32tab", Rows.laid_math_bits_deBruijn32tab), ("math/bits.deBruijn64tab", Rows.laid_math_bits_deBruijn64tab), ("internal/strconv.uint64pow10", Rows.laid_internal_strconv_uint64pow10), ("unicode/utf8.acceptRanges", Rows.laid_unicode_utf8_acceptRanges), ("unicode/utf8.first", Rows.laid_unicode_utf8_first)]
set_option maxRecDepth 100000 in
theorem door_met (os : Os) (args : Array Value) : laidMetH Tryz.prog laidL ((World.laidAll Tryz.prog os laidL).forCall (fun _ _ => 0) ⟨#[], args, []⟩).memory := by
  rw [MakeChecks.laidMetH_plain _ _ _ (by kernel_rfl)]; exact laidMet_laidAll _ (by kernel_rfl) (by kernel_rfl)
theorem acc_eq : (Rows.laid_unicode_utf8_acceptRanges : DataW Unit) = Lib.acceptData := by kernel_rfl
theorem fst_eq : Rows.laid_unicode_utf8_first = Lib.firstData := Pinned.utf8First_eq
theorem pow_eq : (Rows.laid_internal_strconv_uint64pow10 : DataW Unit) = Lib.tabData .u64 Lib.pow10Tab := by kernel_rfl
set_option maxRecDepth 100000 in
theorem facts {W : World} (h : laidMetH Tryz.prog laidL W) : Tabs W ∧ Day.Tab W.heap.size W := by
  rw [MakeChecks.laidMetH_plain _ _ _ (by kernel_rfl)] at h
  have h1 : laidMet Tryz.prog [("internal/strconv.uint64pow10", Lib.tabData .u64 Lib.pow10Tab), ("unicode/utf8.acceptRanges", Lib.acceptData), ("unicode/utf8.first", Lib.firstData)] W := by rw [← acc_eq, ← fst_eq, ← pow_eq]; exact h.tail.tail
  have h2 : laidMet Tryz.prog [("unicode/utf8.acceptRanges", Lib.acceptData), ("unicode/utf8.first", Lib.firstData)] W := h1.tail
  exact ⟨utf8Tabs_of_readsT (U8Types.of196 Tryz.lays196) ⟨by kernel_rfl, by kernel_rfl, by kernel_rfl, by kernel_rfl, by kernel_rfl, by kernel_rfl, by kernel_rfl⟩ (Lib.laidMet.reads h2 (.tail _ (.head _))) (Lib.laidMet.reads h2 (.head _)),
    Lib.tabBelow_of_tabIs (Lib.tabIs_of_head (g := 3) (t := 196) (e := 89) (n := 20) (by kernel_rfl) (by kernel_rfl) Tryz.underlying196 Tryz.underlying89 (by kernel_rfl) (by kernel_rfl) h1)⟩
end Go.Proofs.YtphijnkiiokieaaGreatDoor
