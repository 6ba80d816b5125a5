/- HubWakes: its walk. -/
import Derived.Test.YtgfaegnpogdneaaHo
namespace Go.Proofs.Ytgfaegnpogdneaa
open Go.RowKit Go.Maps
open Go.ChangeShapes Go.ChangeAt
set_option linter.unusedVariables false
set_option linter.unusedSimpArgs false
set_option maxRecDepth 100000
theorem info4 : (Try.prog.info? 4).map (fun i => (i.zero, i.size, i.bytes)) = some (some (.bool false), 1, 1) := by kernel_rfl
theorem rowE_keep {W w2 : World} {B : Nat} {e : TypeId} {v : Value} {n : Nat} {vs : List Value} (h : W.ownsRow B e 1 v n vs) (hb : ∀ j, v.ownBlock = some j → w2.heap[j]? = W.heap[j]?) : w2.ownsRow B e 1 v n vs := by
  obtain ⟨h0, h3 | ⟨b, cap, cur, e1, e2, e3, e4⟩⟩ := h
  · exact ⟨h0, .inl h3⟩
  · exact ⟨h0, .inr ⟨b, cap, cur, e1, e2, (hb b (by rw [e1]; rfl)).trans e3, e4⟩⟩
theorem rowE_below {W w2 : World} {B : Nat} {e : TypeId} {v : Value} {n : Nat} {vs : List Value} (h : W.ownsRow B e 1 v n vs) (hb : Below W.heap.size W w2) : w2.ownsRow B e 1 v n vs := rowE_keep h (fun j hj => hb.block j (h.lt j hj).2)
theorem rowE_slice {w : World} {B : Nat} {e : TypeId} {V : Value} {n : Nat} {vs : List Value} (h : w.ownsRow B e 1 V n vs) (hn : 0 < n) : ∃ g cap, V = .slice (some ⟨g, 0, none⟩) n cap ∧ n ≤ cap ∧ ∀ j u, vs[j]? = some u → w.cell? ⟨g, j, none⟩ = some u := by
  obtain ⟨h0, ⟨_, h2⟩ | ⟨b, cap, cur, rfl, e2, e3, e4, e5, e6, e7⟩⟩ := h
  · omega
  · refine ⟨b, cap, rfl, e4, fun j u hj => ?_⟩
    rw [cell_of_row w b j cur e (0, 0) e3]
    rw [Nat.mul_one] at h0 e7
    have hl := (List.getElem?_eq_some_iff.1 hj).1
    rw [← e7, List.getElem?_take, if_pos (by omega)] at hj
    rw [← Array.getElem?_toList]; exact hj
/-- Who was woken, act by act. -/
def wasL (Z : List Slp) (xs : Nat → Int × Int × Int) (k : Nat) : List Value := (List.range k).map fun i => .bool (wokenB Z (xs i).2.1)
theorem wasL_len (Z : List Slp) (xs : Nat → Int × Int × Int) (k : Nat) : (wasL Z xs k).length = k := by unfold wasL; simp
theorem wasL_snoc (Z : List Slp) (xs : Nat → Int × Int × Int) (k : Nat) : wasL Z xs (k + 1) = wasL Z xs k ++ [.bool (wokenB Z (xs k).2.1)] := by unfold wasL; rw [List.range_succ, List.map_append]; rfl
theorem wasL_get (Z : List Slp) (xs : Nat → Int × Int × Int) (k i : Nat) (h : i < k) : (wasL Z xs k)[i]? = some (.bool (wokenB Z (xs i).2.1)) := by unfold wasL; rw [List.getElem?_map, List.getElem?_range h]; rfl
theorem woken_wkF (Z : List Slp) (p x : Int) : wokenB (wkF Z (atL Z p)) x = ((atL Z p).contains x || wokenB Z x) := by
  unfold wokenB
  rw [wkF_look]
  cases hl : look x Z with
  | none =>
    have : x ∉ atL Z p := fun h => by
      obtain ⟨t, ht, htw, _⟩ := atL_mem h
      exact look_none hl t ht htw
    simp [this]
  | some s =>
    simp only [Option.map_some]
    by_cases h : x ∈ atL Z p
    · simp [h]
    · simp [h]
theorem fresh_none (Z : List Slp) (p : Int) : freshL (wkF Z (atL Z p)) (atL (wkF Z (atL Z p)) p) = [] := by
  unfold freshL
  rw [wkF_at]
  refine List.filter_eq_nil_iff.2 (fun x hx => ?_)
  rw [woken_wkF]
  simp [hx]
section
variable {w W : World} {R b1 b2 B n : Nat} {No : Nat → Prop} {Z : List Slp} {D1 D2 D4 : VD}
theorem wake_off (h : Hb w R b1 b2 B No n Z D1 D2) (hn : n ≤ 1000) (p : Int) (hp : wf p) : Calls Try.prog 12 #[.pointer (some ⟨R, 0, none⟩), .int .i64 p] w fun e w' => ∃ V D3, e = .returned V ∧ Hb w' R b1 b2 B No n (wkF Z (atL Z p)) D3 D2 ∧ w'.ownsRow w.heap.size 3 1 V (freshL Z (atL Z p)).length (ivs (freshL Z (atL Z p))) ∧ (∀ j, j < w.heap.size → ¬ Mine R b1 b2 D2 j → w'.heap[j]? = w.heap[j]?) ∧ Kp No w w' := by
  have H := h.reno (No' := fun j => j < w.heap.size ∧ ¬ Mine R b1 b2 D2 j) (fun j hj => ⟨hj.1, .inr ⟨fun e => hj.2 (.inl e), fun e => hj.2 (.inr (.inl e)), fun e => hj.2 (.inr (.inr (.inl e))), fun q e => hj.2 (.inr (.inr (.inr ⟨q, e⟩)))⟩⟩) (fun j hj => ⟨by have := h.ge.1; have := h.lt.1; omega, fun hm => by
    have := h.mine_no hm
    exact this (h.noB j hj)⟩)
  refine (wake_any H hn p hp).mono ?_
  rintro _ w' ⟨V, D3, rfl, h1, h2, h3⟩
  have hk : Kp No w w' := h3.mono (fun j hj => ⟨h.noLt j hj, fun hm => h.mine_no hm hj⟩)
  refine ⟨V, D3, rfl, ?_, h2, fun j hj hm => h3.block j hj ⟨hj, hm⟩, hk⟩
  exact { h1 with
    shun := h.shun
    nR := h.nR
    noLt := fun j hj => Nat.lt_of_lt_of_le (h.noLt j hj) hk.size
    noB := h.noB }
end
set_option maxHeartbeats 16000000 in
theorem wakes_in (w : World) (A : Option Addr) (len cap blk off : Nat) (xs : Nat → Int × Int × Int) (hl : len ≤ cap) (hm : cap ≤ maxLen) (hlen : len ≤ 100) (hA : Acts w A len blk off xs) (p : Int) (hp : wf p) :
    Calls Try.prog 4 #[.slice A len cap, .int .i64 p] w fun e w' => e = .returned (.bool true) ∧ Below w.heap.size w w' := by
  obtain ⟨i0, hi, hz0, hz1, hz2⟩ := info_parts info3
  obtain ⟨i4, hi4, hz40, hz41, hz42⟩ := info_parts info4
  have HA := Lib.hid hA
  have HP := Lib.hid hp
  have hl2 : ¬ (len : Int) > 100 := by omega
  have HMC := Lib.hid hm
  clear hA hm hp
  go_enter Try.func4, Try.ntmps4
  go_wp2_with fail
  refine (first_any _).mono ?_
  rintro _ w1 ⟨rfl, hb⟩
  have HB1 := Lib.hid hb
  have HA1 := Lib.hid (HA.out.keep hb)
  clear hb
  go_wp2_with fail
  refine (made_any _ A len cap blk off xs hl HMC.out hlen HA1.out).mono ?_
  rintro _ w2 ⟨R, b1, b2, Z, rfl, ⟨D1, D2, h1, h2⟩, _⟩
  have H2 := Lib.hid h1
  have HBL2 := Lib.hid h2
  have hz100 : Z.length ≤ 100 := by have := h1.zn; omega
  clear h1 h2
  have hal : (atL Z p).length ≤ 100 := Nat.le_trans (atL_len Z p) hz100
  obtain ⟨l, hlE⟩ : ∃ l, atL Z p = l := ⟨_, rfl⟩
  have HLE := Lib.hid hlE
  have HAT := Lib.hid (at_any H2.out (by omega) p HP.out)
  rw [hlE] at hal HAT
  clear hlE
  go_wp2_with fail
  refine (HAT.out).mono ?_
  rintro _ w3 ⟨V, rfl, h1, h2⟩
  obtain ⟨A5, c5, _, rfl, _⟩ := nl_row h1
  have HV := Lib.hid h1
  have H3 := Lib.hid (H2.out.kept h2)
  have HBL3 := Lib.hid (HBL2.out.trans (h2.mono HBL2.out.size))
  have hs3 : w2.heap.size ≤ w3.heap.size := h2.size
  clear h1 h2 HAT
  have H0 := Lib.hid (Below.refl w3.heap.size w3)
  go_wp2_with fail
  go_loopw [7, 8] (fun u i wr => ∃ q : Nat, q ≤ l.length ∧ i = .int .i64 (q : Int) ∧ Below w3.heap.size w3 wr ∧ wr.ownsRow w3.heap.size 3 1 u (freshL Z (l.take q)).length (ivs (freshL Z (l.take q)))) (fun _ i _ => l.length - (intOf i).toNat)
  case atStart => exact ⟨0, Nat.zero_le _, rfl, H0.out, World.ownsRow_nil _ _ _ _⟩
  case round =>
    obtain ⟨q, hq, rfl, hb, hr⟩ := hrel
    have HB := Lib.hid hb
    have HR := Lib.hid hr
    by_cases hql : q < l.length
    · obtain ⟨x, hx⟩ : ∃ x, l[q]? = some x := ⟨l[q], List.getElem?_eq_getElem hql⟩
      obtain ⟨t, ht, htw, htp⟩ := atL_mem (show x ∈ atL Z p from HLE.out.symm ▸ List.mem_of_getElem? hx)
      have hwx : wf x := htw ▸ (H3.out.wfz t ht).1
      obtain ⟨g5, ca, e0, _, _, hgl, _, hcell⟩ := row_slice HV.out (by omega)
      cases e0
      have cq : wr.cell? ⟨g5, q, none⟩ = some (.int .i64 x) := (hb.cell (p := ⟨g5, q, none⟩) hgl).trans (hcell q _ (by unfold ivs; rw [List.getElem?_map, hx]; rfl)).1
      have HT := Lib.hid (show l.take (q + 1) = l.take q ++ [x] from by rw [List.take_add_one, hx]; rfl)
      have hqI : (q : Int) < (l.length : Int) := by omega
      have hq0 : (0 : Int) ≤ (q : Int) := by omega
      have hfl : (freshL Z (l.take q)).length ≤ 100 := by
        have h1 : (freshL Z (l.take q)).length ≤ (l.take q).length := List.length_filter_le _ _
        rw [List.length_take] at h1
        omega
      obtain ⟨wk, hwk⟩ : ∃ wk, wokenB Z x = wk := ⟨_, rfl⟩
      have HWK := Lib.hid hwk
      have HWO := Lib.hid (show Calls Try.prog 16 #[.pointer (some ⟨R, 0, none⟩), .int .i64 x] wr fun e w' => e = .returned (.bool wk) ∧ w' = wr from hwk ▸ woken_any (H3.out.kept hb) x hwx)
      obtain ⟨K, hK⟩ : ∃ K, freshL Z (l.take q) = K := ⟨_, rfl⟩
      have HKE := Lib.hid hK
      rw [hK] at HR hfl
      clear hb hr hx ht htw htp hwx hcell hwk hK
      cases wk with
      | true =>
        go_wp2_with (first
          | (go_at_call 16; (with_reducible refine (HWO.out).mono ?_); rintro _ x1 ⟨rfl, hw⟩; replace hw := hw.symm; subst hw)
          | fail)
        go_roundw
        case rel => exact ⟨q + 1, by omega, by go_num, HB.out, by rw [HT.out, freshL_snoc, if_pos HWK.out, HKE.out]; exact HR.out⟩
        case measure => simp [intOf]; omega
      | false =>
        go_wp2_with (first
          | (go_at_call 16; (with_reducible refine (HWO.out).mono ?_); rintro _ x1 ⟨rfl, hw⟩; replace hw := hw.symm; subst hw)
          | (at_builtin
             refine wpList_append_lies _ rfl (.tmp 40) (.tmp 45) 34 rfl w3.heap.size 3 i0 _ 1 8 Try.underlying34 hi hz0 hz1 hz2 rfl (by decide) u7 K.length (ivs K) rfl (row_alloc HR.out _) ⟨wr.heap.size, 0, none⟩ 1 1 [.int .i64 x] rfl rfl (World.news_of_block (cs := #[.int .i64 x]) (t := 3) (fr := (0, 0)) (Blk.new wr 3 _)) (by simp [Value.oneCell']) (by decide) (by unfold maxLen; omega) (by omega) (by have := HB.out.size; simp; omega) _ rfl ?_
             intro n1 k1 w4 hw hg hat hlt
             have HW4 := Lib.hid hw
             have HG4 := Lib.hid hg
             clear hw hg hat hlt)
          | fail)
        have HB4 := Lib.hid ((HB.out.alloc HB.out.size (.cells #[.int .i64 x] 3)).grown HG4.out (by have := HB.out.size; simp; omega) (fun j e => (HR.out.lt j e).1))
        go_roundw
        case rel => exact ⟨q + 1, by omega, by go_num, HB4.out, by rw [HT.out, freshL_snoc, if_neg (by rw [HWK.out]; decide), HKE.out, ivs_snoc, List.length_append]; exact HW4.out⟩
        case measure => simp [intOf]; omega
    · obtain rfl : q = l.length := by omega
      rw [List.take_length] at HR
      clear hb hr hql
      obtain ⟨A7, c7, _, rfl, _⟩ := nl_row HR.out
      have hs4 : w3.heap.size ≤ wr.heap.size := HB.out.size
      have HBL4 := Lib.hid (HBL3.out.trans (HB.out.mono HBL3.out.size))
      have H4 := Lib.hid (H3.out.kept HB.out)
      have HV4 := Lib.hid (rowE_below HV.out HB.out)
      have HX := Lib.hid (fun W (h : Below wr.heap.size wr W) j (hj : j < len) => (HA1.out.keep (HBL4.out.trans (h.mono HBL4.out.size))).2 j hj)
      have HHB := Lib.hid (fun W (h : Below wr.heap.size wr W) => H4.out.kept h)
      have H04 := Lib.hid (Below.refl wr.heap.size wr)
      obtain ⟨s4, hs4E⟩ : ∃ s, s = wr.heap.size := ⟨_, rfl⟩
      have HS4 := Lib.hid hs4E
      rw [← hs4E] at hs4
      clear hs4E
      go_wp2
      go_loopw [9, 10] (fun u i wz => ∃ k : Nat, k ≤ len ∧ i = .int .i64 (k : Int) ∧ Below wr.heap.size wr wz ∧ wz.ownsRow s4 4 1 u k (wasL Z xs k)) (fun _ i _ => len - (intOf i).toNat)
      case atStart => exact ⟨0, Nat.zero_le _, rfl, H04.out, World.ownsRow_nil _ _ _ _⟩
      case round =>
        obtain ⟨k, hk, rfl, hb, hr⟩ := hrel
        have HB5 := Lib.hid hb
        have HW5 := Lib.hid hr
        by_cases hkl : k < len
        · obtain ⟨_, c1, _, f1, _⟩ := HX.out wr hb k hkl
          obtain rfl := (HA1.out.1 (by omega)).1
          obtain ⟨x, hx⟩ : ∃ x, (xs k).2.1 = x := ⟨_, rfl⟩
          rw [hx] at c1 f1
          have HXE := Lib.hid hx
          obtain ⟨wk, hwk⟩ : ∃ wk, wokenB Z x = wk := ⟨_, rfl⟩
          have HWO := Lib.hid (show Calls Try.prog 16 #[.pointer (some ⟨R, 0, none⟩), .int .i64 x] wr fun e w' => e = .returned (.bool wk) ∧ w' = wr from hwk ▸ woken_any (HHB.out wr hb) x f1)
          have HSN := Lib.hid (show wasL Z xs (k + 1) = wasL Z xs k ++ [.bool wk] from by rw [wasL_snoc, hx, hwk])
          have hkI : (k : Int) < (len : Int) := by omega
          have hs5 : s4 ≤ wr.heap.size := by rw [HS4.out]; exact hb.size
          clear hb hr hx f1 hwk
          go_wp2_with (first
            | (go_at_call 16; (with_reducible refine (HWO.out).mono ?_); rintro _ x1 ⟨rfl, hw⟩; replace hw := hw.symm; subst hw)
            | (at_builtin
               refine wpList_append_lies _ rfl (.tmp 53) (.tmp 61) 40 rfl s4 4 i4 _ 1 1 Try.underlying40 hi4 hz40 hz41 hz42 rfl (by decide) u9 k (wasL Z xs k) rfl (rowE_below HW5.out ((Below.refl _ _).alloc (Nat.le_refl _) _)) ⟨wr.heap.size, 0, none⟩ 1 1 [.bool wk] rfl rfl (World.news_of_block (cs := #[.bool wk]) (t := 4) (fr := (0, 0)) (Blk.new wr 4 _)) (by simp [Value.oneCell']) (by decide) (by unfold maxLen; omega) (by omega) (by simp; omega) _ rfl ?_
               intro n1 k1 w4 hw hg hat hlt
               have HW4 := Lib.hid hw
               have HG4 := Lib.hid hg
               clear hw hg hat hlt)
            | fail)
          have HB6 := Lib.hid ((HB5.out.alloc HB5.out.size (.cells #[.bool wk] 4)).grown HG4.out (by have := HB5.out.size; simp; omega) (fun j e => by have := (HW5.out.lt j e).1; rw [← HS4.out]; exact this))
          go_roundw
          case rel => exact ⟨k + 1, by omega, by go_num, HB6.out, by rw [HSN.out]; exact HW4.out⟩
          case measure => simp [intOf]; omega
        · obtain rfl : k = len := by omega
          have H5 := Lib.hid (HHB.out wr hb)
          have HV5 := Lib.hid (rowE_below HV4.out hb)
          have HR5 := Lib.hid (rowE_below HR.out hb)
          have HBL5 := Lib.hid (HBL4.out.trans (hb.mono HBL4.out.size))
          have hlast : ∃ A9 c9, u9 = .slice A9 k c9 := by
            obtain ⟨_, ⟨rfl, e⟩ | ⟨g, cap, cur, rfl, _⟩⟩ := hr
            · exact ⟨none, 0, by rw [e]⟩
            · exact ⟨_, cap, rfl⟩
          obtain ⟨A9, c9, rfl⟩ := hlast
          have hmine : ∀ j, Mine R b1 b2 D2 j → j < w2.heap.size := fun j hj => H2.out.mine_lt hj
          have HMI := Lib.hid hmine
          have HWK := Lib.hid (wake_off H5.out (by omega) p HP.out)
          rw [HLE.out] at HWK
          clear hb hr hkl hmine
          go_wp2_with fail
          refine (HWK.out).mono ?_
          rintro _ w6 ⟨V6, D3, rfl, h1, h2, h3, h4⟩
          have H6 := Lib.hid h1
          have HV6 := Lib.hid h2
          have HVa := Lib.hid (rowE_keep (w2 := w6) HV5.out (fun j hj => h3 j (HV5.out.lt j hj).2 (fun hm => by have := HMI.out j hm; have := (HV5.out.lt j hj).1; omega)))
          have HFr := Lib.hid (rowE_keep (w2 := w6) HR5.out (fun j hj => h3 j (HR5.out.lt j hj).2 (fun hm => by have := HMI.out j hm; have := (HR5.out.lt j hj).1; omega)))
          have HWs := Lib.hid (rowE_keep (w2 := w6) HW5.out (fun j hj => h3 j (HW5.out.lt j hj).2 (fun hm => by have := HMI.out j hm; have := (HW5.out.lt j hj).1; omega)))
          have HBL6 := Lib.hid (HBL5.out.trans (h4.below HBL5.out.size (fun j hj => hj)))
          clear h1 h2 h3 h4 HWK
          have hfl : (freshL Z l).length ≤ 1000000 := by
            have h1 : (freshL Z l).length ≤ l.length := List.length_filter_le _ _
            omega
          have HIN := Lib.hid (ints_row HV6.out HFr.out hfl)
          go_wp2_with fail
          refine (HIN.out).mono ?_
          rintro _ w7 ⟨rfl, h1⟩
          have H7 := Lib.hid (H6.out.kept h1)
          have HVb := Lib.hid (rowE_below HVa.out h1)
          have HWt := Lib.hid (rowE_below HWs.out h1)
          have HBL7 := Lib.hid (HBL6.out.trans (h1.mono HBL6.out.size))
          clear h1 HIN HV6 HFr
          have HWK := Lib.hid (wake_off H7.out (by omega) p HP.out)
          have hfn := fresh_none Z p
          rw [HLE.out] at hfn
          rw [hfn] at HWK
          have hat2 : atL (wkF Z l) p = l := by rw [wkF_at, HLE.out]
          rw [hat2] at HWK
          clear hfn
          go_wp2_with fail
          refine (HWK.out).mono ?_
          rintro _ w8 ⟨V8, D4, rfl, h1, h2, h3, h4⟩
          have H8 := Lib.hid h1
          have HVc := Lib.hid (rowE_keep (w2 := w8) HVb.out (fun j hj => h3 j (HVb.out.lt j hj).2 (fun hm => by have := HMI.out j hm; have := (HVb.out.lt j hj).1; omega)))
          have HWu := Lib.hid (rowE_keep (w2 := w8) HWt.out (fun j hj => h3 j (HWt.out.lt j hj).2 (fun hm => by have := HMI.out j hm; have := (HWt.out.lt j hj).1; omega)))
          have HBL8 := Lib.hid (HBL7.out.trans (h4.below HBL7.out.size (fun j hj => hj)))
          obtain ⟨A8, c8, _, rfl, _⟩ := nl_row h2
          clear h1 h2 h3 h4 HWK
          have HAT := Lib.hid (at_any H8.out (by omega) p HP.out)
          rw [wkF_at, hat2] at HAT
          clear hat2
          go_wp2_with fail
          refine (HAT.out).mono ?_
          rintro _ w9 ⟨V9, rfl, h1, h2⟩
          have H9 := Lib.hid (H8.out.kept h2)
          have HV9 := Lib.hid h1
          have HVd := Lib.hid (rowE_below HVc.out h2)
          have HWv := Lib.hid (rowE_below HWu.out h2)
          have HBL9 := Lib.hid (HBL8.out.trans (h2.mono HBL8.out.size))
          clear h1 h2 HAT
          have HIN := Lib.hid (ints_row HV9.out HVd.out (by omega))
          go_wp2_with fail
          refine (HIN.out).mono ?_
          rintro _ w10 ⟨rfl, h1⟩
          have H10 := Lib.hid (H9.out.kept h1)
          have HVe := Lib.hid (rowE_below HVd.out h1)
          have HWx := Lib.hid (rowE_below HWv.out h1)
          have HBL10 := Lib.hid (HBL9.out.trans (h1.mono HBL9.out.size))
          have H010 := Lib.hid (Below.refl w10.heap.size w10)
          clear h1 HIN HV9
          go_wp2_with fail
          go_loopw [11] (fun i wz => ∃ m : Nat, m ≤ k ∧ i = .int .i64 (m : Int) ∧ Below w10.heap.size w10 wz) (fun i _ => k - (intOf i).toNat)
          case atStart => exact ⟨0, Nat.zero_le _, rfl, H010.out⟩
          case round =>
            obtain ⟨m, hm, rfl, hb⟩ := hrel
            have HBm := Lib.hid hb
            by_cases hmk : m < k
            · have HXm := Lib.hid (fun W (h : Below w10.heap.size w10 W) => (HA1.out.keep (HBL10.out.trans (h.mono HBL10.out.size))).2 m hmk)
              obtain rfl := (HA1.out.1 (by omega)).1
              obtain ⟨x, hx⟩ : ∃ x, (xs m).2.1 = x := ⟨_, rfl⟩
              rw [hx] at HXm
              have hwx : wf x := (HXm.out wr hb).2.2.2.1
              have HWXX := Lib.hid hwx
              obtain ⟨gw, cw, e0, hcw, hcell⟩ := rowE_slice HWx.out (by omega)
              cases e0
              obtain ⟨wk, hwk⟩ : ∃ wk, wokenB Z x = wk := ⟨_, rfl⟩
              have hgw : gw < w10.heap.size := (HWx.out.lt gw rfl).2
              have HCW := Lib.hid (fun W (h : Below w10.heap.size w10 W) => show W.cell? ⟨gw, m, none⟩ = some (.bool wk) from (h.cell (p := ⟨gw, m, none⟩) hgw).trans (by rw [hcell m _ (wasL_get Z xs k m hmk), hx, hwk]))
              have HVF := Lib.hid (show wokenB (wkF (wkF Z l) l) x = (l.contains x || wk) from by
                have e1 := woken_wkF Z p x
                have e2 := woken_wkF (wkF Z (atL Z p)) p x
                rw [wkF_at] at e2
                rw [HLE.out] at e1 e2
                rw [e2, e1, hwk]
                cases l.contains x <;> rfl)
              have hmI : (m : Int) < (k : Int) := by omega
              clear hb hx hwx hcell hwk
              go_wp2
              go_loopw [12, 13] (fun a i wz => ∃ j : Nat, j ≤ l.length ∧ i = .int .i64 (j : Int) ∧ a = .bool ((l.take j).contains x) ∧ Below w10.heap.size w10 wz) (fun _ i _ => l.length - (intOf i).toNat)
              case atStart => exact ⟨0, Nat.zero_le _, rfl, by simp, HBm.out⟩
              case round =>
                obtain ⟨j, hj, rfl, rfl, hb⟩ := hrel
                have HBj := Lib.hid hb
                by_cases hjl : j < l.length
                · obtain ⟨y, hy⟩ : ∃ y, l[j]? = some y := ⟨l[j], List.getElem?_eq_getElem hjl⟩
                  obtain ⟨ga, ca, e0, _, _, hgl, _, hcell⟩ := row_slice HVe.out (by omega)
                  cases e0
                  have hcj : wr.cell? ⟨ga, j, none⟩ = some (.int .i64 y) := (hb.cell (p := ⟨ga, j, none⟩) hgl).trans (hcell j _ (by unfold ivs; rw [List.getElem?_map, hy]; rfl)).1
                  have hcx := (HXm.out wr hb).2.1
                  have HST := Lib.hid (show (l.take (j + 1)).contains x = ((l.take j).contains x || (y == x)) from by
                    rw [List.take_add_one, hy]
                    simp only [Option.toList_some, List.contains_eq_any_beq, List.any_append, List.any_cons, List.any_nil, Bool.or_false]
                    congr 1
                    exact Bool.beq_comm)
                  have hjI : (j : Int) < (l.length : Int) := by omega
                  have cyd : wr.drew.cell? ⟨ga, j, none⟩ = some (.int .i64 y) := hcj
                  have cxd : wr.drew.cell? ⟨blk, off + m * 3 + 1, none⟩ = some (.int .i64 x) := hcx
                  have hmI2 : (m : Int) < (k : Int) := by omega
                  obtain ⟨a, ha⟩ : ∃ a, (l.take j).contains x = a := ⟨_, rfl⟩
                  rw [ha] at HST ⊢
                  clear hy hcell ha hb
                  cases a with
                  | true =>
                    go_wp2
                    go_quiet (fail)
                    have HBq := Lib.hid (below_drewN HBj.out nq)
                    go_wp2
                    go_roundw
                    case rel => exact ⟨j + 1, by omega, by go_num, by rw [HST.out]; rfl, HBq.out⟩
                    case measure => simp [intOf]; omega
                  | false =>
                    obtain ⟨e, he⟩ : ∃ e, (y == x) = e := ⟨_, rfl⟩
                    rw [he] at HST
                    have HBq := Lib.hid HBj.out.drew
                    go_wp2
                    go_region_held3 (fun W => W.cell? ⟨ga, j, none⟩ = some (.int .i64 y) ∧ W.cell? ⟨blk, off + m * 3 + 1, none⟩ = some (.int .i64 x)) (exact ⟨cyd, cxd⟩) (fail)
                    go_wp2
                    go_roundw
                    case rel => exact ⟨j + 1, by omega, by go_num, by rw [HST.out]; simp [he], HBq.out⟩
                    case measure => simp [intOf]; omega
                · obtain rfl : j = l.length := by omega
                  rw [List.take_length]
                  have hcx := (HXm.out wr hb).2.1
                  have hcw := HCW.out wr hb
                  obtain ⟨a, ha⟩ : ∃ a, l.contains x = a := ⟨_, rfl⟩
                  have HVF2 := HVF.out
                  rw [ha] at HVF2 ⊢
                  have HWO := Lib.hid (show Calls Try.prog 16 #[.pointer (some ⟨R, 0, none⟩), .int .i64 x] wr fun e w' => e = .returned (.bool (a || wk)) ∧ w' = wr from HVF2 ▸ woken_any (H10.out.kept hb) x HWXX.out)
                  clear hb ha HVF2
                  cases a with
                  | true =>
                    simp only [Bool.true_or] at HWO
                    go_wp2_with (first
                      | (go_at_call 16; (with_reducible refine (HWO.out).mono ?_); rintro _ x1 ⟨rfl, hw⟩; replace hw := hw.symm; subst hw)
                      | fail)
                    go_roundw
                    case rel => exact ⟨m + 1, by omega, by go_num, HBj.out⟩
                    case measure => simp [intOf]; omega
                  | false =>
                    simp only [Bool.false_or] at HWO
                    go_wp2_with (first
                      | (go_at_call 16; (with_reducible refine (HWO.out).mono ?_); rintro _ x1 ⟨rfl, hw⟩; replace hw := hw.symm; subst hw)
                      | fail)
                    go_roundw
                    case rel => exact ⟨m + 1, by omega, by go_num, HBj.out⟩
                    case measure => simp [intOf]; omega
            · obtain rfl : m = k := by omega
              clear hb
              go_wp2
              go_ret
              exact ⟨rfl, HB1.out.trans (((HBL10.out.trans (HBm.out.mono HBL10.out.size))).mono HB1.out.size)⟩
theorem wakes_big (w : World) (A : Option Addr) (len cap : Nat) (p : Int) (h : 100 < len) : Calls Try.prog 4 #[.slice A len cap, .int .i64 p] w fun e w' => e = .returned (.bool true) ∧ Below w.heap.size w w' := by
  have hl2 : (len : Int) > 100 := by omega
  go_enter Try.func4, Try.ntmps4
  go_wp2_with fail
  refine (first_any _).mono ?_
  rintro _ w1 ⟨rfl, hb⟩
  have HB1 := Lib.hid hb
  clear hb
  go_wp2_with fail
  refine (first_any _).mono ?_
  rintro _ w2 ⟨rfl, hb⟩
  have HB2 := Lib.hid hb
  clear hb
  go_wp2
  go_ret
  exact ⟨rfl, HB1.out.trans (HB2.out.mono HB1.out.size)⟩
theorem hubWakes_walk (w : World) (A0 : Option Addr) (len0 cap0 : Nat) (S0 : Sh.ok w (Sh.slice 3 (Sh.agg 3 [(0, 1, (Sh.int .i64)), (1, 1, (Sh.int .i64)), (2, 1, (Sh.int .i64))])) [.slice A0 len0 cap0]) (a1 : Int) (w1 : (Lit.int .i64 a1).wf = true) :
    Calls Try.prog 4 #[.slice A0 len0 cap0, .int .i64 a1] w fun e w' => e = .returned (.bool true) ∧ Below w.heap.size w w' := by
  obtain ⟨b, off, xs, hl, hm, hA⟩ := acts_of S0
  by_cases h : 100 < len0
  · exact wakes_big w A0 len0 cap0 a1 h
  · exact wakes_in w A0 len0 cap0 b off xs hl hm (by omega) hA a1 w1
end Go.Proofs.Ytgfaegnpogdneaa
