/- HubCounts: its walk. -/
import Derived.Test.YtgfaegnpogdneaaHo
namespace Go.Proofs.Ytgfaegnpogdneaa
open Go.RowKit Go.Maps
open Go.ChangeShapes Go.ChangeAt
set_option linter.unusedVariables false
set_option linter.unusedSimpArgs false
set_option maxRecDepth 100000
/-- Is q among the places of the first k acts? -/
def plB (xs : Nat → Int × Int × Int) (k : Nat) (q : Int) : Bool := (List.range k).any fun j => (xs j).2.2 == q
theorem plB_succ (xs : Nat → Int × Int × Int) (k : Nat) (q : Int) : plB xs (k + 1) q = (plB xs k q || ((xs k).2.2 == q)) := by
  unfold plB
  rw [List.range_succ, List.any_append]
  simp
def cntZ (xs : Nat → Int × Int × Int) (k : Nat) (Z : List Slp) : Nat := (Z.filter fun s => plB xs k s.place).length
theorem cnt_seen {xs : Nat → Int × Int × Int} {k : Nat} (h : plB xs k (xs k).2.2 = true) (Z : List Slp) : cntZ xs (k + 1) Z = cntZ xs k Z := by
  unfold cntZ
  congr 2
  funext s
  rw [plB_succ]
  by_cases e : (xs k).2.2 = s.place
  · rw [← e, h]; rfl
  · simp [e]
theorem cnt_new {xs : Nat → Int × Int × Int} {k : Nat} (h : plB xs k (xs k).2.2 = false) : ∀ Z : List Slp, cntZ xs (k + 1) Z = cntZ xs k Z + (atL Z (xs k).2.2).length
  | [] => rfl
  | s :: Z => by
    have ih := cnt_new h Z
    unfold cntZ atL at *
    rw [List.length_map] at *
    rw [List.filter_cons, List.filter_cons, List.filter_cons, plB_succ]
    by_cases e : s.place = (xs k).2.2
    · have h2 : plB xs k s.place = false := by rw [e]; exact h
      rw [h2, e]
      simp only [Bool.false_or, beq_self_eq_true, if_true, Bool.false_eq_true, if_false, decide_true, List.length_cons]
      omega
    · have h2 : ((xs k).2.2 == s.place) = false := by simpa using fun h => e h.symm
      rw [h2, Bool.or_false]
      simp only [e, decide_false, Bool.false_eq_true, if_false]
      split
      · simp only [List.length_cons]; omega
      · exact ih
theorem cnt_all {xs : Nat → Int × Int × Int} {k : Nat} {Z : List Slp} (h : From xs k Z) : cntZ xs k Z = Z.length := by
  unfold cntZ
  congr 1
  refine List.filter_eq_self.2 (fun s hs => ?_)
  obtain ⟨i, hi, e⟩ := h s hs
  unfold plB
  rw [List.any_eq_true]
  exact ⟨i, List.mem_range.2 hi, by rw [e]; simp⟩
theorem cnt_le (xs : Nat → Int × Int × Int) (k : Nat) (Z : List Slp) : cntZ xs k Z ≤ Z.length := List.length_filter_le _ _
set_option maxHeartbeats 8000000 in
theorem counts_in (w : World) (A : Option Addr) (len cap blk off : Nat) (xs : Nat → Int × Int × Int) (hl : len ≤ cap) (hm : cap ≤ maxLen) (hlen : len ≤ 100) (hA : Acts w A len blk off xs) :
    Calls Try.prog 6 #[.slice A len cap] w fun e w' => e = .returned (.bool true) ∧ Below w.heap.size w w' := by
  have HA := Lib.hid hA
  have hl2 : ¬ (len : Int) > 100 := by omega
  have HMC := Lib.hid hm
  clear hA hm
  go_enter Try.func6, Try.ntmps6
  go_wp2_with fail
  refine (first_any _).mono ?_
  rintro _ w1 ⟨rfl, hb⟩
  have HB1 := Lib.hid hb
  have HA1 := Lib.hid (HA.out.keep hb)
  clear hb
  go_wp2_with fail
  refine (made_any _ A len cap blk off xs hl HMC.out hlen HA1.out).mono ?_
  rintro _ w2 ⟨R, b1, b2, Z, rfl, h1, h2⟩
  have H2 := Lib.hid h1
  have HF := Lib.hid h2
  have hz100 : Z.length ≤ 100 := by have := h1.zn; omega
  clear h1 h2
  go_wp2_with fail
  go_loopw [4, 5] (fun nn i wr => ∃ k : Nat, k ≤ len ∧ i = .int .i64 (k : Int) ∧ nn = .int .i64 ((cntZ xs k Z : Nat) : Int) ∧ Hw w1 wr R b1 b2 len Z) (fun _ i _ => len - (intOf i).toNat)
  case atStart => exact ⟨0, Nat.zero_le _, rfl, by rw [show cntZ xs 0 Z = 0 from by unfold cntZ plB; simp]; rfl, H2.out⟩
  case round =>
    obtain ⟨k, hk, rfl, rfl, hc⟩ := hrel
    have HC := Lib.hid hc
    by_cases hlt : k < len
    · obtain ⟨_, _, c2, _, f2⟩ := (HA1.out.keep hc.bel).2 k hlt
      obtain rfl := (HA1.out.1 (by omega)).1
      have HX := Lib.hid (fun w' (h : Below w1.heap.size w1 w') j (hj : j < len) => ((HA1.out.keep h).2 j hj).2.2.1)
      obtain ⟨p, hp⟩ : ∃ p, (xs k).2.2 = p := ⟨_, rfl⟩
      rw [hp] at c2 f2
      have F2 := Lib.hid f2
      have HPE := Lib.hid hp
      have hkI : (k : Int) < (len : Int) := by omega
      have hcn : cntZ xs k Z ≤ 100 := Nat.le_trans (cnt_le xs k Z) hz100
      obtain ⟨cn, hcnE⟩ : ∃ cn, cntZ xs k Z = cn := ⟨_, rfl⟩
      have HCN := Lib.hid hcnE
      rw [hcnE] at hcn ⊢
      clear hc hp f2 hcnE
      go_wp2
      go_loopw [6, 7] (fun a i wr => ∃ j : Nat, j ≤ k ∧ i = .int .i64 (j : Int) ∧ a = .bool (plB xs j p) ∧ Hw w1 wr R b1 b2 len Z) (fun _ i _ => k - (intOf i).toNat)
      case atStart => exact ⟨0, Nat.zero_le _, rfl, rfl, HC.out⟩
      case round =>
        obtain ⟨j, hj, rfl, rfl, hc2⟩ := hrel
        have HC2 := Lib.hid hc2
        by_cases hjk : j < k
        · have cj : wr.drew.cell? ⟨blk, off + j * 3 + 2, none⟩ = some (.int .i64 (xs j).2.2) := HX.out wr.drew hc2.bel.drew j (by omega)
          have ck : wr.drew.cell? ⟨blk, off + k * 3 + 2, none⟩ = some (.int .i64 p) := by rw [← HPE.out]; exact HX.out wr.drew hc2.bel.drew k hlt
          have hjI : (j : Int) < (len : Int) := by omega
          have hjkI : (j : Int) < (k : Int) := by omega
          obtain ⟨y, hy⟩ : ∃ y, (xs j).2.2 = y := ⟨_, rfl⟩
          have HS := Lib.hid (plB_succ xs j p)
          rw [hy] at HS cj
          obtain ⟨a, ha⟩ : ∃ a, plB xs j p = a := ⟨_, rfl⟩
          rw [ha] at HS ⊢
          clear hc2 hy ha
          cases a with
          | true =>
            go_wp2
            go_quiet (fail)
            have HC3 := Lib.hid (show Hw w1 (wr.drewN nq) R b1 b2 len Z from HC2.out.kept (below_drewN (Below.refl _ _) nq))
            go_wp2
            go_roundw
            case rel => exact ⟨j + 1, by omega, by go_num, by rw [HS.out]; rfl, HC3.out⟩
            case measure => simp [intOf]; omega
          | false =>
            obtain ⟨e, he⟩ : ∃ e, (y == p) = e := ⟨_, rfl⟩
            rw [he] at HS
            have HC3 := Lib.hid (show Hw w1 wr.drew R b1 b2 len Z from HC2.out.kept (Below.refl _ _).drew)
            go_wp2
            go_region_held3 (fun W => W.cell? ⟨blk, off + j * 3 + 2, none⟩ = some (.int .i64 y) ∧ W.cell? ⟨blk, off + k * 3 + 2, none⟩ = some (.int .i64 p)) (exact ⟨cj, ck⟩) (fail)
            go_wp2
            go_roundw
            case rel => exact ⟨j + 1, by omega, by go_num, by rw [HS.out]; simp [he], HC3.out⟩
            case measure => simp [intOf]; omega
        · obtain rfl : j = k := by omega
          clear hjk
          obtain ⟨a, ha⟩ : ∃ a, plB xs j p = a := ⟨_, rfl⟩
          have HPA := Lib.hid ha
          rw [ha]
          clear hc2 ha
          cases a with
          | true =>
            have HS := Lib.hid (show cntZ xs (j + 1) Z = cn from by rw [cnt_seen (by rw [HPE.out]; exact HPA.out), HCN.out])
            go_wp2
            go_roundw
            case rel => exact ⟨j + 1, by omega, by go_num, by rw [HS.out], HC2.out⟩
            case measure => simp [intOf]; omega
          | false =>
            have HS := Lib.hid (show cntZ xs (j + 1) Z = cn + (atL Z p).length from by rw [cnt_new (by rw [HPE.out]; exact HPA.out), HCN.out, HPE.out])
            have ck : wr.cell? ⟨blk, off + j * 3 + 2, none⟩ = some (.int .i64 p) := by rw [← HPE.out]; exact HX.out wr HC2.out.bel j hlt
            have hal : (atL Z p).length ≤ 100 := Nat.le_trans (atL_len Z p) hz100
            obtain ⟨l, hlE⟩ : ∃ l, atL Z p = l := ⟨_, rfl⟩
            have HLE := Lib.hid hlE
            have HAT := Lib.hid (hw_at HC2.out (by omega) p F2.out l hlE)
            rw [hlE] at HS hal
            clear hlE
            go_wp2_with fail
            refine (HAT.out).mono ?_
            rintro _ w5 ⟨V, rfl, h1, h2⟩
            obtain ⟨A5, c5, _, rfl, _⟩ := nl_row h1
            have HV := Lib.hid h1
            have HC5 := Lib.hid (HC2.out.kept h2)
            clear h1 h2 ck
            go_wp2_with fail
            go_loopw [9] (fun i wi => ∃ q : Nat, q ≤ l.length ∧ i = .int .i64 (q : Int) ∧ Hw w1 wi R b1 b2 len Z ∧ wi.ownsRow wr.heap.size 3 1 (.slice A5 l.length c5) l.length (ivs l)) (fun i _ => l.length - (intOf i).toNat)
            case atStart => exact ⟨0, Nat.zero_le _, rfl, HC5.out, HV.out⟩
            case round =>
              obtain ⟨q, hq, rfl, hc6, hv6⟩ := hrel
              have HC6 := Lib.hid hc6
              have HV6 := Lib.hid hv6
              by_cases hql : q < l.length
              · obtain ⟨x, hx⟩ : ∃ x, l[q]? = some x := ⟨l[q], List.getElem?_eq_getElem hql⟩
                obtain ⟨t, ht, htw, htp⟩ := atL_mem (show x ∈ atL Z p from HLE.out.symm ▸ List.mem_of_getElem? hx)
                have hwx : wf x := by
                  obtain ⟨D1, D2, hb, _⟩ := hc6
                  exact htw ▸ (hb.wfz t ht).1
                have hls : (look x Z).isSome = true := by rw [look_some_of hc6.one t ht htw]; rfl
                obtain ⟨g5, ca, e0, _, _, hgl, _, hcell⟩ := row_slice hv6 (by omega)
                cases e0
                have cq := (hcell q _ (by unfold ivs; rw [List.getElem?_map, hx]; rfl)).1
                have cqd : wr.drew.cell? ⟨g5, q, none⟩ = some (.int .i64 x) := cq
                have ckd : wr.drew.cell? ⟨blk, off + j * 3 + 2, none⟩ = some (.int .i64 p) := by rw [← HPE.out]; exact HX.out wr.drew hc6.bel.drew j hlt
                have HNO := Lib.hid (hw_no (show Hw w1 wr.drew R b1 b2 len Z from hc6.kept (Below.refl _ _).drew) x p hwx hls)
                have HK := Lib.hid (fun w' (h : Below wr.heap.size wr w') => show w'.cell? ⟨g5, q, none⟩ = some (.int .i64 x) ∧ w'.cell? ⟨blk, off + j * 3 + 2, none⟩ = some (.int .i64 p) from ⟨(h.cell (p := ⟨g5, q, none⟩) hgl).trans cq, by rw [← HPE.out]; exact HX.out w' (hc6.bel.trans (h.mono hc6.bel.size)) j hlt⟩)
                have hqI : (q : Int) < (l.length : Int) := by omega
                have hq0 : (0 : Int) ≤ (q : Int) := by omega
                clear hc6 hv6 hx ht htw htp hwx hls hcell cq
                go_wp2_with fail
                go_region_held3 (fun W => W.cell? ⟨g5, q, none⟩ = some (.int .i64 x) ∧ W.cell? ⟨blk, off + j * 3 + 2, none⟩ = some (.int .i64 p)) (first | exact ⟨cqd, ckd⟩ | exact e9) (first
                  | (go_at_call 9
                     (with_reducible refine (HNO.out).mono ?_)
                     rintro _ w9 ⟨rfl, h1⟩
                     have h2 : Below wr.heap.size wr w9 := ((Below.refl wr.heap.size wr).drew).trans h1
                     have e9 := HK.out w9 h2
                     have HC9 := Lib.hid (HC6.out.kept h2)
                     have HV9 := Lib.hid (row_keep (w2 := w9) HV6.out (fun j hj => h2.block j (HV6.out.lt j hj).2))
                     clear h1 h2))
                all_goals (
                  go_wp2_with fail
                  go_roundw
                  case rel => exact ⟨q + 1, by omega, by go_num, HC9.out, HV9.out⟩
                  case measure => simp [intOf]; omega)
              · obtain rfl : q = l.length := by omega
                clear hc6 hv6
                go_wp2
                go_roundw
                case rel => exact ⟨j + 1, by omega, by go_num, by rw [HS.out]; go_num, HC6.out⟩
                case measure => simp [intOf]; omega
    · obtain rfl : k = len := by omega
      rw [cnt_all HF.out]
      clear hc hlt
      go_wp2_with fail
      refine (hw_len HC.out _ rfl).mono ?_
      rintro _ w3 ⟨rfl, hw⟩
      replace hw := hw.symm
      subst hw
      go_wp2
      go_ret
      exact ⟨rfl, HB1.out.trans (HC.out.bel.mono HB1.out.size)⟩
theorem counts_big (w : World) (A : Option Addr) (len cap : Nat) (h : 100 < len) : Calls Try.prog 6 #[.slice A len cap] w fun e w' => e = .returned (.bool true) ∧ Below w.heap.size w w' := by
  have hl2 : (len : Int) > 100 := by omega
  go_enter Try.func6, Try.ntmps6
  go_wp2_with fail
  refine (first_any _).mono ?_
  rintro _ w1 ⟨rfl, hb⟩
  have HB1 := Lib.hid hb
  clear hb
  go_wp2_with fail
  refine (first_any _).mono ?_
  rintro _ w2 ⟨rfl, hb⟩
  have HB2 := Lib.hid hb
  clear hb
  go_wp2
  go_ret
  exact ⟨rfl, HB1.out.trans (HB2.out.mono HB1.out.size)⟩
theorem hubCounts_walk (w : World) (A0 : Option Addr) (len0 cap0 : Nat) (S0 : Sh.ok w (Sh.slice 3 (Sh.agg 3 [(0, 1, (Sh.int .i64)), (1, 1, (Sh.int .i64)), (2, 1, (Sh.int .i64))])) [.slice A0 len0 cap0]) :
    Calls Try.prog 6 #[.slice A0 len0 cap0] w fun e w' => e = .returned (.bool true) ∧ Below w.heap.size w w' := by
  obtain ⟨b, off, xs, hl, hm, hA⟩ := acts_of S0
  by_cases h : 100 < len0
  · exact counts_big w A0 len0 cap0 h
  · exact counts_in w A0 len0 cap0 b off xs hl hm (by omega) hA
end Go.Proofs.Ytgfaegnpogdneaa
