/- MailBack. -/
import Derived.Test.YtckkckbgjehpjaaDoorMa
namespace Go.Proofs.YtckkckbgjehpjaaDoor
open Go.RowKit
open Go.Lib hiding intOf
set_option linter.unusedVariables false
set_option maxRecDepth 100000
def partF (f : UInt8 → UInt8) (l : List UInt8) (k : Nat) : List UInt8 := (l.take k).map f ++ l.drop k
theorem partF_len (f) (l : List UInt8) (k : Nat) : (partF f l k).length = l.length := by unfold partF; simp; omega
theorem partF_at (f) (l : List UInt8) (k : Nat) (hk : k < l.length) : (partF f l k)[k]? = some l[k] := by
  unfold partF
  rw [List.getElem?_append_right (by simp; omega)]
  simp [Nat.min_eq_left (Nat.le_of_lt hk)]
theorem partF_set (f) (l : List UInt8) (k : Nat) (hk : k < l.length) : (partF f l k).set k (f l[k]) = partF f l (k + 1) := by
  apply List.ext_getElem?
  intro j
  rw [List.getElem?_set]
  unfold partF
  by_cases e : k = j
  · subst e
    rw [if_pos rfl, if_pos (by simp; omega), List.getElem?_append_left (by simp; omega)]
    simp [hk]
  · rw [if_neg e]
    by_cases hj : j < k
    · rw [List.getElem?_append_left (by simp; omega), List.getElem?_append_left (by simp; omega)]
      simp [hj, show j < k + 1 by omega]
    · rw [List.getElem?_append_right (by simp; omega), List.getElem?_append_right (by simp; omega)]
      simp only [List.length_map, List.length_take, List.getElem?_drop]
      congr 1
      omega
theorem partF_same (f) (l : List UInt8) (k : Nat) (hk : k < l.length) (h : f l[k] = l[k]) : partF f l (k + 1) = partF f l k := by
  rw [← partF_set f l k hk, h]
  apply List.ext_getElem?
  intro j
  rw [List.getElem?_set]
  by_cases e : k = j
  · subst e
    rw [if_pos rfl, if_pos (by rw [partF_len]; exact hk), partF_at f l k hk]
  · rw [if_neg e]
theorem row_below {w w' : World} {g m : Nat} {l : List UInt8} (h : Row w g m l) (hb : Below w.heap.size w w') (hg : g < w.heap.size) : Row w' g m l := by
  obtain ⟨C, h1, h2⟩ := h
  exact ⟨C, (hb.block g hg).trans h1, h2⟩
set_option maxHeartbeats 2000000 in
theorem back_big (w : World) (hT : Tabs w) (hM : Mx w) (a : ByteArray) (h : 200 < a.size) : Calls Tryd.prog 4 #[.string a] w fun e w' => e = .returned (.bool true) ∧ Below w.heap.size w w' := by
  have HF := Lib.hid (first_on hT hM)
  have HB0 := Lib.hid (Below.refl w.heap.size w)
  have h1 : (a.size : Int) > 200 := by omega
  clear hT hM h
  go_enter Tryd.func4, Tryd.ntmps4
  go_wp2_with (go_at_call 6; (with_reducible refine (HF.out _ HB0.out).mono ?_); rintro e v1 ⟨rfl, hb⟩; have HB1 := Lib.hid hb; clear hb)
  go_wp2_with (go_at_call 6; (with_reducible refine (HF.out _ HB1.out).mono ?_); rintro e v2 ⟨rfl, hb⟩; have HB2 := Lib.hid hb; clear hb)
  go_wp2
  go_ret
  exact ⟨rfl, HB2.out⟩
set_option maxHeartbeats 2000000 in
theorem back_none (w : World) (hT : Tabs w) (hM : Mx w) (a : ByteArray) (h1 : (a.size : Int) ≤ 200) (k : Int) (hk : k ≠ 0) (hs : mailS a = (⟨#[]⟩, k)) (hb : mailB a.data.toList = false) : Calls Tryd.prog 4 #[.string a] w fun e w' => e = .returned (.bool true) ∧ Below w.heap.size w w' := by
  have HF := Lib.hid (first_on hT hM)
  have HB0 := Lib.hid (Below.refl w.heap.size w)
  have HC := Lib.hid (fun v => canon_on hT hM a (by omega) _ _ hs v)
  have HI := Lib.hid (fun v => is_on hT hM a (by omega) _ hb v)
  have hk' : (k != 0) = true := by simpa using hk
  clear hT hM hs hb hk
  go_enter Tryd.func4, Tryd.ntmps4
  go_wp2_with (go_at_call 6; (with_reducible refine (HF.out _ HB0.out).mono ?_); rintro e v1 ⟨rfl, hb⟩; have HB1 := Lib.hid hb; clear hb)
  go_wp2_with (go_at_call 7; (with_reducible refine (HC.out _ HB1.out).mono ?_); rintro e v2 ⟨rfl, hb⟩; have HB2 := Lib.hid hb; clear hb)
  go_wp2_with (go_at_call 11; (with_reducible refine (HI.out _ HB2.out).mono ?_); rintro e v3 ⟨rfl, hb⟩; have HB3 := Lib.hid hb; clear hb)
  go_wp2
  go_ret
  exact ⟨rfl, HB3.out⟩
set_option maxHeartbeats 8000000 in
theorem back_some (w : World) (hT : Tabs w) (hM : Mx w) (a : ByteArray) (h1 : (a.size : Int) ≤ 200) (s l d U : ByteArray) (hs : mailS a = (s, 0)) (hp : partsS s = (l, d, true)) (hsz : (s.size : Int) ≤ 64) (hjoin : (l ++ ⟨#[64]⟩) ++ d = s)
    (hU : U.data.toList = d.data.toList.map upC) (X : ByteArray) (hX : ((((⟨#[32, 32]⟩ : ByteArray) ++ l) ++ (⟨#[64]⟩ : ByteArray)) ++ U) ++ (⟨#[32]⟩ : ByteArray) = X) (hXs : X.size ≤ 1000) (c1 : mailS s = (s, 0)) (c2 : mailS X = (s, 0)) (hsame : sameB s s = true) :
    Calls Tryd.prog 4 #[.string a] w fun e w' => e = .returned (.bool true) ∧ Below w.heap.size w w' := by
  have hld : l.size + 1 + d.size = s.size := by
    have y2 : (⟨#[64]⟩ : ByteArray).size = 1 := rfl
    have h := congrArg ByteArray.size hjoin
    simp only [ByteArray.size_append, y2] at h
    exact h
  have hUs : U.size = d.size := by
    have h1 : U.data.toList.length = U.size := by simp
    have h2 : d.data.toList.length = d.size := by simp
    rw [hU, List.length_map] at h1; omega
  have HF := Lib.hid (first_on hT hM)
  have HB0 := Lib.hid (Below.refl w.heap.size w)
  have HC := Lib.hid (fun v => canon_on hT hM a (by omega) s 0 hs v)
  have HP := Lib.hid (fun v => parts_on hT hM s (by omega) l d true hp v)
  have HC1 := Lib.hid (fun v => canon_on hT hM s (by omega) s 0 c1 v)
  have HC2 := Lib.hid (fun v => canon_on hT hM X (Nat.le_trans hXs (by decide)) s 0 c2 v)
  have HS := Lib.hid (fun v => same_on hT hM s s (by omega) (by omega) true hsame v)
  have HU := Lib.hid hU
  have e1 : (s.toList == s.toList) = true := by simp
  have z1 : ((⟨#[32, 32]⟩ : ByteArray).size : Int) = 2 := rfl
  have z2 : ((⟨#[64]⟩ : ByteArray).size : Int) = 1 := rfl
  have z3 : ((⟨#[32]⟩ : ByteArray).size : Int) = 1 := rfl
  have hlI : (l.size : Int) ≤ 64 := by omega
  have hdI : (d.size : Int) ≤ 64 := by omega
  have hUI : (U.size : Int) ≤ 64 := by omega
  have HJ := Lib.hid hjoin
  have hd1 : d.size ≤ 1000000 := by omega
  have HX := Lib.hid hX
  have HT := Lib.hid hT
  have HMM := Lib.hid hM
  have HC10 := Lib.hid c1
  clear hT hM hs hp c1 c2 hsame hU hld hjoin hX
  go_enter Tryd.func4, Tryd.ntmps4
  go_wp2_with (go_at_call 6; (with_reducible refine (HF.out _ HB0.out).mono ?_); rintro e v1 ⟨rfl, hb⟩; have HB1 := Lib.hid hb; clear hb)
  go_wp2_with (go_at_call 7; (with_reducible refine (HC.out _ HB1.out).mono ?_); rintro e v2 ⟨rfl, hb⟩; have HB2 := Lib.hid hb; clear hb)
  go_wp2_with (go_at_call 9; (with_reducible refine (HP.out _ HB2.out).mono ?_); rintro e v3 ⟨rfl, hb⟩; have HB3 := Lib.hid hb; clear hb)
  obtain ⟨cap, hcap⟩ : ∃ cap, grownCap v3 d.size 0 5 = cap := ⟨_, rfl⟩
  have hge : d.size ≤ cap := by rw [← hcap]; exact grownCap_ge _ _ _ _
  have kc := run_bytes_of_string (P := Tryd.prog) v3 9 30 5 d Tryd.underlying9 Tryd.underlying30 Tryd.underlying5
  rw [hcap] at kc
  have HR := Lib.hid (row_str v3.drew d cap hge v3.heap.size rfl)
  have HBx : Hid (Below w.heap.size w (v3.drew.alloc (.cells (bytesRow d cap) 5 ((bytesRow d cap).size, (bytesRow d cap).size + 1)))) := Lib.hid ((HB3.out.drew).alloc HB3.out.size _)
  obtain ⟨W1, hW1⟩ : ∃ W1, v3.drew.alloc (.cells (bytesRow d cap) 5 ((bytesRow d cap).size, (bytesRow d cap).size + 1)) = W1 := ⟨_, rfl⟩
  rw [hW1] at kc HR HBx
  have hcapI : (d.size : Int) ≤ (cap : Int) := by omega
  have HG := Lib.hid HB3.out.size
  obtain ⟨G, hG⟩ : ∃ G, v3.heap.size = G := ⟨_, rfl⟩
  rw [hG] at kc HR HG
  clear hW1 hcap hge hG
  rw [kc]
  simp only [Result.andThen]
  rw [Oper.upon_value]
  go_wp2
  go_loopw [9] (fun i wr => ∃ k : Nat, k ≤ d.size ∧ i = .int .i64 (k : Int) ∧ Row wr G cap (partF upC d.data.toList k) ∧ Below w.heap.size w wr) (fun i _ => d.size - (intOf i).toNat)
  case atStart => exact ⟨0, Nat.zero_le _, rfl, by unfold partF; simpa using HR.out, HBx.out⟩
  case round =>
    obtain ⟨k, hk, rfl, hr, hb⟩ := hrel
    have HRR := Lib.hid hr
    have HBB := Lib.hid hb
    clear hr hb kc
    by_cases hlt : k < d.size
    · have hkl : k < d.data.toList.length := by simpa using hlt
      obtain ⟨cc, cf⟩ := HRR.out.cell (partF_at upC _ _ hkl)
      have HST := Lib.hid (partF_set upC _ _ hkl)
      have HSM := Lib.hid (partF_same upC _ _ hkl)
      obtain ⟨c, hc⟩ : ∃ c, d.data.toList[k] = c := ⟨_, rfl⟩
      rw [hc] at cc HST HSM
      have hc8 : (c.toNat : Int) ≤ 255 := by have := c.toNat_lt; omega
      clear hc
      by_cases u1 : 97 ≤ (c.toNat : Int)
      · by_cases u2 : (c.toNat : Int) ≤ 122
        · have HSS := Lib.hid (show Row (wr.setCell ⟨G, k, none⟩ (.int .u8 ((c.toNat : Int) - 32))) G cap (partF upC d.data.toList (k + 1)) by
            have h := HRR.out.set k (upC c)
            rw [HST.out] at h
            have e : ((upC c).toNat : Int) = (c.toNat : Int) - 32 := by
              unfold upC; rw [if_pos ⟨u1, u2⟩, UInt8.toNat_ofNat']; omega
            rwa [e] at h)
          go_wp2
          exact ⟨⟨k + 1, by omega, by go_num, HSS.out, HBB.out.setCell (p := ⟨G, k, none⟩) HG.out _⟩, by simp [intOf]; omega⟩
        · have u3 : decide ((c.toNat : Int) ≤ 122) = false := by simpa using u2
          have HSS := Lib.hid (HSM.out (by unfold upC; rw [if_neg (fun e => u2 e.2)]))
          go_wp2
          exact ⟨⟨k + 1, by omega, by go_num, by rw [HSS.out]; exact HRR.out, HBB.out⟩, by simp [intOf]; omega⟩
      · have u3 : decide (97 ≤ (c.toNat : Int)) = false := by simpa using u1
        have HSS := Lib.hid (HSM.out (by unfold upC; rw [if_neg (fun e => u1 e.1)]))
        go_wp2
        exact ⟨⟨k + 1, by omega, by go_num, by rw [HSS.out]; exact HRR.out, HBB.out⟩, by simp [intOf]; omega⟩
    · have hks : k = d.size := by omega
      subst hks
      have HRU := Lib.hid (show Row wr G cap U.data.toList by
        have h := HRR.out
        unfold partF at h
        rw [List.take_of_length_le (by simp), List.drop_of_length_le (by simp), List.append_nil, ← HU.out] at h
        exact h)
      have HLU := Lib.hid (show U.data.toList.length = d.size by rw [HU.out]; simp)
      have HGl := Lib.hid (show G < wr.heap.size by
        obtain ⟨C, h1, _⟩ := HRU.out
        rcases Nat.lt_or_ge G wr.heap.size with h | h
        · exact h
        · rw [Array.getElem?_eq_none h] at h1; cases h1)
      have hC1 := mcanon_any s (by omega) wr (tabs_on HT.out HBB.out (tabs_size HT.out)) (HMM.out.keep HBB.out HMM.out.lt)
      rw [HC10.out] at hC1
      have HC1r := Lib.hid hC1
      have hX := HX.out
      have hJ := HJ.out
      have hA1 : (((⟨#[32, 32]⟩ : ByteArray) ++ l).size : Int) ≤ 100 := by simp only [ByteArray.size_append]; omega
      have hA2 : ((((⟨#[32, 32]⟩ : ByteArray) ++ l) ++ (⟨#[64]⟩ : ByteArray)).size : Int) ≤ 200 := by simp only [ByteArray.size_append] at hA1 ⊢; omega
      have hA3 : (((((⟨#[32, 32]⟩ : ByteArray) ++ l) ++ (⟨#[64]⟩ : ByteArray)) ++ U).size : Int) ≤ 300 := by simp only [ByteArray.size_append] at hA2 ⊢; omega
      have hA4 : ((l ++ (⟨#[64]⟩ : ByteArray)).size : Int) ≤ 100 := by simp only [ByteArray.size_append]; omega
      have HUU := Lib.hid (show (⟨U.data.toList.toArray⟩ : ByteArray) = U from rfl)
      clear hC1
      go_wp2_with (go_at_call 7; (with_reducible refine (HC1r.out).mono ?_); rintro e v5 ⟨rfl, hb⟩; have HB5 := Lib.hid hb; have HB5w := Lib.hid (HBB.out.trans (hb.mono HBB.out.size)); have hcv := row_conv (row_below HRU.out hb HGl.out) cap; rw [HLU.out, HUU.out] at hcv; clear hb)
      go_wp2_with (go_at_call 7; (with_reducible refine (HC2.out _ HB5w.out).mono ?_); rintro e v6 ⟨rfl, hb⟩; have HB6 := Lib.hid hb; clear hb)
      clear hcv hX
      go_wp2_with (go_at_call 13; (with_reducible refine (HS.out _ HB6.out).mono ?_); rintro e v7 ⟨rfl, hb⟩; have HB7 := Lib.hid hb; clear hb)
      go_wp2
      go_ret
      exact ⟨rfl, HB7.out⟩
theorem mailBack_walk (w : World) (hT : Tabs w) (hM : Mx w) (a : ByteArray) (w0 : a.size ≤ maxLen) :
    Calls Tryd.prog 4 #[.string a] w fun e w' => e = .returned (.bool true) ∧ Below w.heap.size w w' := by
  by_cases hbig : 200 < a.size
  · exact back_big w hT hM a hbig
  · rcases mail_cases a with ⟨h1, h2⟩ | ⟨h1, h2, h3⟩
    · obtain ⟨⟨s, k⟩, hs⟩ : ∃ r, mailS a = r := ⟨_, rfl⟩
      rw [hs] at h1 h2
      simp only at h1 h2
      subst h1
      have A := mail_parts _ h2
      have hp : partsS s = (⟨(cut s.data.toList [64]).1.toArray⟩, ⟨(cut s.data.toList [64]).2.1.toArray⟩, true) := by rw [parts_mail, if_pos h2]
      have hg := mail_great h2
      have hz : s.data.toList.length = s.size := by simp
      have hs64 := A.len
      obtain ⟨l, hl⟩ : ∃ l, (cut s.data.toList [64]).1 = l := ⟨_, rfl⟩
      obtain ⟨d, hd⟩ : ∃ d, (cut s.data.toList [64]).2.1 = d := ⟨_, rfl⟩
      rw [hl, hd] at hp hg A
      have hld : l.length + 1 + d.length = s.data.toList.length := by have := congrArg List.length A.eq; simp at this ⊢; omega
      refine back_some w hT hM a (by omega) s ⟨l.toArray⟩ ⟨d.toArray⟩ ⟨(d.map upC).toArray⟩ hs hp (by omega) ?_ rfl _ rfl ?_ (mail_self h2) ?_ ?_
      · apply bs_ext
        rw [app_list, app_list, A.eq]
        show l ++ [64] ++ d = _
        simp
      · have t1 : (⟨l.toArray⟩ : ByteArray).size = l.length := List.size_toArray
        have t2 : (⟨(d.map upC).toArray⟩ : ByteArray).size = d.length := by show (d.map upC).toArray.size = _; simp
        have y1 : (⟨#[32, 32]⟩ : ByteArray).size = 2 := rfl
        have y2 : (⟨#[64]⟩ : ByteArray).size = 1 := rfl
        have y3 : (⟨#[32]⟩ : ByteArray).size = 1 := rfl
        rw [ByteArray.size_append, ByteArray.size_append, ByteArray.size_append, ByteArray.size_append, t1, t2, y1, y2, y3]
        omega
      · have e2 : (⟨([32, 32] ++ l ++ [64] ++ d.map upC ++ [32]).toArray⟩ : ByteArray) = ((((⟨#[32, 32]⟩ : ByteArray) ++ ⟨l.toArray⟩) ++ (⟨#[64]⟩ : ByteArray)) ++ ⟨(d.map upC).toArray⟩) ++ (⟨#[32]⟩ : ByteArray) := by
          apply bs_ext
          rw [app_list, app_list, app_list, app_list]
        rw [e2] at hg
        exact hg
      · unfold sameB; rw [h2]; simp
    · exact back_none w hT hM a (by omega) _ h1 (Prod.ext h2 rfl) h3
end Go.Proofs.YtckkckbgjehpjaaDoor
