/- OmapKeys: Keys rise, each once; a key's Place is its place; what is told is new. -/
import Derived.Test.YtmapfbnfcbkjpaaLb
namespace Go.Proofs.Ytmapfbnfcbkjpaa
open Go.RowKit
open Go.Lib
set_option linter.unusedVariables false
set_option linter.unusedSimpArgs false
set_option maxRecDepth 100000
theorem srt_at {L : LI} (h : Srt L) {i : Nat} {p : ByteArray × Int} (hi : L[i]? = some p) : plc p.1 L = i := by
  have hlt := (List.getElem?_eq_some_iff.1 hi).1
  have e : L = L.take i ++ p :: L.drop (i + 1) := by
    have := (List.getElem?_eq_some_iff.1 hi).2
    rw [← this, ← List.drop_eq_getElem_cons hlt, List.take_append_drop]
  have h2 := h
  rw [e] at h2
  obtain ⟨_, _, h3, h4, _⟩ := Srt.split h2
  unfold plc
  conv => lhs; rw [e]
  rw [List.filter_append, List.filter_cons, if_neg (by rw [klt_irr]; decide)]
  have f1 : (L.take i).filter (fun q => klt q.1 p.1) = L.take i := List.filter_eq_self.2 (fun a ha => h3 a ha)
  have f2 : (L.drop (i + 1)).filter (fun q => klt q.1 p.1) = [] := List.filter_eq_nil_iff.2 (fun a ha e => by rw [klt_asym (h4 a ha)] at e; cases e)
  rw [f1, f2, List.append_nil, List.length_take]
  omega
theorem srt_lt {L : LI} (h : Srt L) {i j : Nat} {p q : ByteArray × Int} (hi : L[i]? = some p) (hj : L[j]? = some q) (hij : i < j) : klt p.1 q.1 = true := by
  obtain ⟨l1, e1⟩ := List.getElem?_eq_some_iff.1 hi
  obtain ⟨l2, e2⟩ := List.getElem?_eq_some_iff.1 hj
  have := List.pairwise_iff_getElem.1 h i j l1 l2 hij
  rwa [e1, e2] at this
theorem lplace_mem {k : ByteArray} : ∀ {L : LI}, Srt L → (∃ p ∈ L, p.1 = k) → (lplace k (keysL L)).2 = true
  | [], _, ⟨p, hp, _⟩ => by cases hp
  | p :: L, h, ⟨q, hq, hk⟩ => by
    obtain ⟨h1, h2⟩ := List.pairwise_cons.1 h
    show (lplace k (p.1 :: keysL L)).2 = true
    unfold lplace
    by_cases hlt : klt p.1 k = true
    · rw [if_pos hlt]
      refine lplace_mem h2 ⟨q, ?_, hk⟩
      rcases List.mem_cons.1 hq with e | e
      · exfalso; rw [← hk, e, klt_irr] at hlt; cases hlt
      · exact e
    · rw [if_neg hlt]
      rcases List.mem_cons.1 hq with e | e
      · rw [← hk, e]; simp
      · exact absurd (hk ▸ h1 q e) hlt
/-- A map behind puts. -/
structure Ps (w0 w : World) (g k : Nat) (xs : Nat → A3) (L : LI) : Prop where
  om : OI.Om w g L
  bel : Below w0.heap.size w0 w
  ge : w0.heap.size ≤ g
  len : L.length ≤ k
  key : ∀ q ∈ L, q.1.size ≤ 40
  all : ∀ j, j < k → (getL (xs j).2.1 L).isSome = true
theorem Ps.put {w0 w w' : World} {g k : Nat} {xs : Nat → A3} {L : LI} (h : Ps w0 w g k xs L) (hk : (xs k).2.1.size ≤ 40) {v : Int} (ho : OI.Om w' g (insL (xs k).2.1 v L)) (hb : OI.Ko w w' g) : Ps w0 w' g (k + 1) xs (insL (xs k).2.1 v L) := by
  refine ⟨ho, h.bel.trans (hb.below h.ge h.bel.size), h.ge, ?_, fun q hq => ?_, fun j hj => ?_⟩
  · rw [insL_len h.om.srt]
    have := h.len
    split <;> omega
  · rcases insL_mem hq with rfl | hq
    · exact hk
    · exact h.key q hq
  · rw [getL_ins h.om.srt]
    split
    · rfl
    · rename_i hne
      refine h.all j ?_
      by_cases e : j = k
      · subst e; exact absurd rfl hne
      · omega
theorem om_drewN {w : World} {g : Nat} {L : LI} (h : OI.Om w g L) (n : Nat) : OI.Om (w.drewN n) g L := h.keep rfl (fun _ _ x => x)
theorem place_at {w : World} {g : Nat} {L : LI} (h : OI.Om w g L) (hn : L.length ≤ 40000) {i : Nat} {p : ByteArray × Int} (hi : L[i]? = some p) : Calls Try.prog 14 #[.pointer (some ⟨g, 0, none⟩), .string p.1] w fun e w' => e = .returned (.int .i64 (i : Int)) ∧ w' = w := by
  have := OI.om_place h (by omega) p.1
  rw [srt_at h.srt hi] at this
  exact this
theorem row9_set {w : World} {B g n cap : Nat} {vs : List Value} (h : w.ownsRow B 9 1 (.slice (some ⟨g, 0, none⟩) n cap) n vs) (j : Nat) (u : Value) : (w.setCell ⟨g, j, none⟩ u).ownsRow B 9 1 (.slice (some ⟨g, 0, none⟩) n cap) n (vs.set j u) := by
  obtain ⟨h0, ⟨h3, _⟩ | ⟨b, c, cur, e1, e2, e3, e4, e5, e6, e7⟩⟩ := h
  · cases h3
  · injection e1 with e1a _ e1c
    injection e1a with e1b
    injection e1b with e1d
    subst e1d e1c
    refine ⟨by rw [List.length_set]; exact h0, .inr ⟨g, cap, cur.setIfInBounds j u, rfl, e2, by simp [World.setCell, Array.getElem?_modify, e3], e4, e5, by rw [Array.size_setIfInBounds]; exact e6, ?_⟩⟩
    rw [Array.toList_setIfInBounds, List.take_set, e7]
theorem row9_at {w : World} {B n cap : Nat} {A : Option Addr} {vs : List Value} (h : w.ownsRow B 9 1 (.slice A n cap) n vs) {j : Nat} (hj : j < n) : ∃ g u, A = some ⟨g, 0, none⟩ ∧ B ≤ g ∧ w.cell? ⟨g, j, none⟩ = some u ∧ w.frozen? ⟨g, j, none⟩ = false ∧ u.oneCell' = u.oneCell' := by
  obtain ⟨h0, ⟨h3, h4⟩ | ⟨b, c, cur, e1, e2, e3, e4, e5, e6, e7⟩⟩ := h
  · omega
  · injection e1 with e1a _ e1c
    have hjs : j < cur.size := by
      have : vs.length = n := by omega
      have h8 : (cur.toList.take (n * 1)).length = n := by rw [e7]; exact this
      rw [List.length_take] at h8
      simp at h8
      omega
    refine ⟨b, cur[j], e1a, e2, ?_, by simp [World.frozen?, e3], rfl⟩
    rw [cell_of_row w b j cur 9 (0, 0) e3]
    exact Array.getElem?_eq_getElem hjs
set_option maxHeartbeats 16000000 in
theorem keys_in (w : World) (A : Option Addr) (len cap b off : Nat) (xs : Nat → A3) (hl : len ≤ cap) (hm : cap ≤ maxLen) (hA : Acts w A len b off xs) :
    Calls Try.prog 5 #[.slice A len cap] w fun e w' => e = .returned (.bool true) ∧ Below w.heap.size w w' := by
  have HA := Lib.hid hA
  have HM := Lib.hid hm
  have HLC := Lib.hid hl
  clear hA hm hl
  go_enter Try.func5, Try.ntmps5
  go_wp2_with fail
  refine (first_any _).mono ?_
  rintro _ w1 ⟨rfl, hb⟩
  have HB1 := Lib.hid hb
  have HA1 := Lib.hid (HA.out.keep hb)
  clear hb
  go_wp2_with fail
  refine (light_any w1 A len cap b off xs HLC.out HM.out HA1.out).mono ?_
  rintro _ wz ⟨⟨bb, rfl, hlt⟩, hw0⟩
  replace hw0 := hw0.symm
  subst hw0
  have HLT := Lib.hid hlt
  clear hlt
  cases bb with
  | false =>
    go_wp2_with fail
    refine (first_any _).mono ?_
    rintro _ w2 ⟨rfl, hb⟩
    have HB2 := Lib.hid hb
    clear hb
    go_wp2
    go_ret
    exact ⟨rfl, HB1.out.trans (HB2.out.mono HB1.out.size)⟩
  | true =>
    obtain ⟨h80, h40⟩ := HLT.out rfl
    have H40 := Lib.hid h40
    clear h40 HLT
    go_wp2_with fail
    refine (OI.om_new _).mono ?_
    rintro _ w2 ⟨g, rfl, h1, hb, hg⟩
    have HP0 := Lib.hid (show Ps w1 w2 g 0 xs [] from ⟨h1, hb, hg, Nat.le_refl _, fun q hq => (by cases hq), fun j hj => absurd hj (Nat.not_lt_zero _)⟩)
    clear h1 hb
    go_wp2_with fail
    go_loopw [4] (fun i wr => ∃ (k : Nat) (L : LI), k ≤ len ∧ i = .int .i64 (k : Int) ∧ Ps w1 wr g k xs L) (fun i _ => len - (intOf i).toNat)
    case atStart => exact ⟨0, [], Nat.zero_le _, rfl, HP0.out⟩
    case round =>
      obtain ⟨k, L, hk, rfl, hc⟩ := hrel
      have HC := Lib.hid hc
      by_cases hlt : k < len
      · obtain ⟨_, c1, c2, _, _⟩ := (HA1.out.keep (hc.bel)).2 k hlt
        obtain rfl := (HA1.out.1 (by omega)).1
        have HX := Lib.hid (fun w' (h : Below w1.heap.size w1 w') => (HA1.out.keep h).2 k hlt)
        have HK40 := Lib.hid (H40.out k hlt)
        have HLL := Lib.hid hc.len
        obtain ⟨o, ho⟩ : ∃ o, (getL (xs k).2.1 L).isSome = o := ⟨_, rfl⟩
        have HPC := Lib.hid (OI.om_put (hc.om.below ((Below.refl _ wr).drew)) (by have := hc.len; omega) (xs k).2.1 (xs k).2.2 o ho)
        have HPP := Lib.hid (fun w' (h1 : OI.Om w' g (insL (xs k).2.1 (xs k).2.2 L)) (h2 : OI.Ko wr.drew w' g) => hc.put HK40.out h1 ((OI.Ko.of ((Below.refl _ wr).drew)).trans h2))
        obtain ⟨L2, hL2⟩ : ∃ L2, insL (xs k).2.1 (xs k).2.2 L = L2 := ⟨_, rfl⟩
        rw [hL2] at HPC HPP
        obtain ⟨x, hx⟩ : ∃ x, (xs k).2.1 = x := ⟨_, rfl⟩
        obtain ⟨v, hv⟩ : ∃ v, (xs k).2.2 = v := ⟨_, rfl⟩
        rw [hx] at c1 HPC HX
        rw [hv] at c2 HPC HX
        have hkI : (k : Int) < (len : Int) := by omega
        have c1d : wr.drew.cell? ⟨b, off + k * 3 + 1, none⟩ = some (.string x) := c1
        have c2d : wr.drew.cell? ⟨b, off + k * 3 + 2, none⟩ = some (.int .i64 v) := c2
        clear hc ho hL2 hx hv
        go_wp2_with fail
        go_region_held3 (fun w' => w'.cell? ⟨b, off + k * 3 + 1, none⟩ = some (.string x) ∧ w'.cell? ⟨b, off + k * 3 + 2, none⟩ = some (.int .i64 v)) (first | exact ⟨c1d, c2d⟩ | exact e1) (first
          | (go_at_call 11
             (with_reducible refine (HPC.out).mono ?_)
             rintro _ w3 ⟨rfl, h1, h2⟩
             have HP3 := Lib.hid (HPP.out w3 h1 h2)
             have e1 := HX.out _ HP3.out.bel
             have e1 := (⟨e1.2.1, e1.2.2.1⟩ : _ ∧ _)
             clear h1 h2)
          | fail)
        all_goals (
          go_wp2_with fail
          exact ⟨⟨k + 1, _, by omega, by go_num, HP3.out⟩, by simp [intOf]; omega⟩)
      · obtain rfl : k = len := by omega
        have hLk := hc.len
        have HKY := Lib.hid (fun q hq => Nat.le_trans (hc.key q hq) (by decide : 40 ≤ 1000000))
        clear hc hlt
        obtain ⟨n, hn⟩ : ∃ n, L.length = n := ⟨_, rfl⟩
        have HN := Lib.hid hn
        have hn80 : n ≤ 80 := by omega
        have hnI : (n : Int) ≤ 80 := by omega
        clear hn hLk
        go_wp2_with fail
        refine (om_keysX HC.out.om (by rw [HN.out]; omega) HKY.out n HN.out).mono ?_
        rintro _ w3 ⟨A1, k1, g1, rfl, hs, _, hb⟩
        have HS1 := Lib.hid hs
        have HO3 := Lib.hid (HC.out.om.below hb)
        have HB3 := Lib.hid (HC.out.bel.trans (hb.mono HC.out.bel.size))
        clear hs hb
        go_wp2_with fail
        refine (om_keysX HO3.out (by rw [HN.out]; omega) HKY.out n HN.out).mono ?_
        rintro _ w4 ⟨A2, k2, g2, rfl, _, hr, hb⟩
        have HR2 := Lib.hid hr
        have HS2 := Lib.hid (HS1.out.below hb)
        have HO4 := Lib.hid (HO3.out.below hb)
        have HB4 := Lib.hid hb
        clear hr hb
        go_wp2_with fail
        go_loopw [7] (fun i wr => ∃ q : Nat, q ≤ n ∧ i = .int .i64 (q : Int) ∧ Below w4.heap.size w4 wr) (fun i _ => n - (intOf i).toNat)
        case atStart => exact ⟨0, Nat.zero_le _, rfl, Below.refl _ _⟩
        case round =>
          obtain ⟨q, hq, rfl, hb⟩ := hrel
          have HBR := Lib.hid hb
          have HOR := Lib.hid (HO4.out.below hb)
          have HSR := Lib.hid (HS2.out.below hb)
          clear hb
          by_cases hql : q < n
          · obtain ⟨⟨x, v⟩, hp⟩ : ∃ p, L[q]? = some p := ⟨L[q]'(by rw [HN.out]; exact hql), List.getElem?_eq_getElem _⟩
            obtain ⟨rfl, hgl, d0⟩ := HSR.out.2 q x (by unfold keysL; rw [List.getElem?_map, hp]; rfl)
            have HI := Lib.hid hp
            have hqI : (q : Int) < (n : Int) := by omega
            clear hp
            by_cases hq0 : q = 0
            · have hkd : decide ((q : Int) > 0) = false := by rw [hq0]; decide
              have hkd2 : decide (0 < q) = false := by rw [hq0]; decide
              have HPL := Lib.hid (fun nq => place_at (om_drewN HOR.out nq) (by rw [HN.out]; omega) HI.out)
              clear hq0
              go_wp2
              go_quiet ((go_at_call 14; exact Calls.quiet_of_same (HPL.out _)))
              have HF := Lib.hid (show Below w4.heap.size w4 (wr.drewN nq) from below_drewN HBR.out nq)
              go_wp2
              go_roundw
              case rel => exact ⟨q + 1, by omega, by go_num, HF.out⟩
              case measure => simp [intOf]; omega
            · obtain ⟨m, hmq⟩ : ∃ m, m + 1 = q := ⟨q - 1, by omega⟩
              obtain ⟨⟨y, u⟩, hp⟩ : ∃ p, L[m]? = some p := ⟨L[m]'(by rw [HN.out]; omega), List.getElem?_eq_getElem _⟩
              obtain ⟨_, _, d1⟩ := HSR.out.2 m y (by unfold keysL; rw [List.getElem?_map, hp]; rfl)
              have hyx : Op.bytesLess y.toList x.toList = true := srt_lt HOR.out.srt hp HI.out (by omega)
              have hkd : decide ((q : Int) > 0) = true := decide_eq_true (by omega)
              have hkd2 : decide (0 < q) = true := decide_eq_true (by omega)
              have i1 : IntKind.i64.wrap ((q : Int) - 1) = (m : Int) := by rw [show (q : Int) - 1 = (m : Int) by omega]; exact IntWalk.i64_in _ (by omega)
              have i5 : (m : Int) < (n : Int) := by omega
              have HPL := Lib.hid (fun nq => place_at (om_drewN HOR.out nq) (by rw [HN.out]; omega) HI.out)
              clear hp hmq hq0
              go_wp2
              go_quiet ((go_at_call 14; exact Calls.quiet_of_same (HPL.out _)))
              have HF := Lib.hid (show Below w4.heap.size w4 (wr.drewN nq) from below_drewN HBR.out nq)
              clear i1 i5
              go_wp2
              go_roundw
              case rel => exact ⟨q + 1, by omega, by go_num, HF.out⟩
              case measure => simp [intOf]; omega
          · obtain rfl : n = q := by omega
            have HBZ := Lib.hid (HB4.out.trans (HBR.out.mono HB4.out.size))
            have HRZ := Lib.hid (row9_keep HR2.out (fun j hj => HBR.out.block j (HR2.out.lt j hj).2))
            clear hql
            go_wp2_with fail
            go_loopw [8] (fun i wr => ∃ (q : Nat) (vs : List Value), q ≤ n ∧ i = .int .i64 (q : Int) ∧ wr.ownsRow w3.heap.size 9 1 (.slice A2 n k2) n vs ∧ Below w3.heap.size w3 wr) (fun i _ => n - (intOf i).toNat)
            case atStart => exact ⟨0, _, Nat.zero_le _, rfl, HRZ.out, HBZ.out⟩
            case round =>
              obtain ⟨q, vs, hq, rfl, hr, hb⟩ := hrel
              have HRR := Lib.hid hr
              have HBB := Lib.hid hb
              clear hb
              by_cases hql : q < n
              · obtain ⟨g2, u, rfl, hge, d0, f0, _⟩ := row9_at hr hql
                have hqI : (q : Int) < (n : Int) := by omega
                have HRS := Lib.hid (row9_set hr q (.string ⟨#[115, 112, 111, 105, 108, 116]⟩))
                have HBS := Lib.hid (HBB.out.setCell (p := ⟨g2, q, none⟩) hge (.string ⟨#[115, 112, 111, 105, 108, 116]⟩))
                clear hr
                go_wp2_with fail
                go_roundw
                case rel => exact ⟨q + 1, _, by omega, by go_num, HRS.out, HBS.out⟩
                case measure => simp [intOf]; omega
              · obtain rfl : n = q := by omega
                clear hr hql
                go_wp2_with fail
                go_loopw [9] (fun i wr => ∃ q : Nat, q ≤ k ∧ i = .int .i64 (q : Int) ∧ Below w3.heap.size w3 wr) (fun i _ => k - (intOf i).toNat)
                case atStart => exact ⟨0, Nat.zero_le _, rfl, HBB.out⟩
                case round =>
                  obtain ⟨q, hq, rfl, hb⟩ := hrel
                  have HBC := Lib.hid hb
                  have HBA := Lib.hid (HB3.out.trans (hb.mono HB3.out.size))
                  have HSC := Lib.hid (HS1.out.below hb)
                  clear hb
                  by_cases hql : q < k
                  · obtain ⟨_, c1, _, _, _⟩ := (HA1.out.keep HBA.out).2 q hql
                    obtain rfl := (HA1.out.1 (by omega)).1
                    have hqI : (q : Int) < (k : Int) := by omega
                    have HLP := Lib.hid (lplace_mem HC.out.om.srt ((getL_isSome HC.out.om.srt).1 (HC.out.all q hql)))
                    obtain ⟨x, hx⟩ : ∃ x, (xs q).2.1 = x := ⟨_, rfl⟩
                    rw [hx] at c1 HLP
                    obtain ⟨r, hr⟩ : ∃ r, lplace x (keysL L) = r := ⟨_, rfl⟩
                    rw [hr] at HLP
                    obtain ⟨r1, r2⟩ := r
                    obtain rfl : r2 = true := HLP.out
                    have HPA := Lib.hid (place_any wr A1 k1 g1 (keysL L) HSC.out (by rw [keysL_len, HN.out]; omega) x _ hr)
                    rw [keysL_len, HN.out] at HPA
                    clear hx hr
                    go_wp2_with (first
                      | (go_at_call 10
                         (with_reducible refine (HPA.out).mono ?_)
                         rintro _ w7 ⟨rfl, hb⟩
                         have HB7 := Lib.hid (HBC.out.trans (hb.mono HBC.out.size))
                         clear hb)
                      | fail)
                    go_roundw
                    case rel => exact ⟨q + 1, by omega, by go_num, HB7.out⟩
                    case measure => simp [intOf]; omega
                  · obtain rfl : k = q := by omega
                    have HOC := Lib.hid (HO3.out.below HBC.out)
                    have HLN := Lib.hid (OI.om_len HOC.out)
                    rw [HN.out] at HLN
                    clear hql
                    go_wp2_with fail
                    refine HLN.out.mono ?_
                    rintro _ wz ⟨rfl, hw0⟩
                    replace hw0 := hw0.symm
                    subst hw0
                    go_wp2_with fail
                    refine (om_keysX HOC.out (by rw [HN.out]; omega) HKY.out n HN.out).mono ?_
                    rintro _ w8 ⟨A8, k8, g8, rfl, hs, _, hb⟩
                    have HS8 := Lib.hid hs
                    have HSK := Lib.hid (HSC.out.below hb)
                    have HB8 := Lib.hid (HBA.out.trans (hb.mono HBA.out.size))
                    have HTX := Lib.hid (texts_same HS8.out HSK.out (by rw [keysL_len, HN.out]; omega))
                    rw [keysL_len, HN.out] at HTX
                    clear hs hb
                    go_wp2_with fail
                    refine HTX.out.mono ?_
                    rintro _ w9 ⟨rfl, hb⟩
                    have HB9 := Lib.hid (HB8.out.trans (hb.mono HB8.out.size))
                    clear hb
                    go_wp2
                    go_ret
                    exact ⟨rfl, HB1.out.trans (HB9.out.mono HB1.out.size)⟩
theorem omapKeys_walk (w : World) (A0 : Option Addr) (len0 cap0 : Nat) (S0 : Sh.ok w (Sh.slice 3 (Sh.agg 3 [(0, 1, (Sh.int .i64)), (1, 1, Sh.str), (2, 1, (Sh.int .i64))])) [.slice A0 len0 cap0]) :
    Calls Try.prog 5 #[.slice A0 len0 cap0] w fun e w' => e = .returned (.bool true) ∧ Below w.heap.size w w' := by
  obtain ⟨b, off, xs, hl, hm, hA⟩ := acts_of S0
  exact keys_in w A0 len0 cap0 b off xs hl hm hA
end Go.Proofs.Ytmapfbnfcbkjpaa
