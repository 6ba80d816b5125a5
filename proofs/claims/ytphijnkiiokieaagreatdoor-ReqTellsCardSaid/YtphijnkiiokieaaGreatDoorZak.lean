/- Texts of one proof, joined. -/
import Derived.Test.YtphijnkiiokieaaGreatDoorZaj
set_option linter.unusedVariables false
set_option linter.unusedSimpArgs false
set_option maxRecDepth 100000
set_option maxHeartbeats 80000000
namespace Go.Proofs.YtphijnkiiokieaaGreatDoor
open Go.RowKit
open Go.Lib hiding intOf
def dayE (t : ByteArray) : Int := match Day.prs t with
 | some _ => 0
 | none => 1
theorem dayE_val (t : ByteArray) : Day.errV (Day.prs t) = .int .i64 (dayE t) := by
 unfold dayE
 cases Day.prs t <;> rfl
def valueS (k : Int) (s : ByteArray) : ByteArray × Int := if k = 3 then telS s else if k = 4 then mailS s else if k = 5 ∧ (cleanS s).2 = 0 then ((cleanS s).1, dayE (cleanS s).1) else cleanS s
theorem value_any (k : Int) (s : ByteArray) (hs : s.size ≤ 1000000) (w : World) (hT : Tabs w) (hM : Mx w) (hD : Day.Tab w.heap.size w) : Calls Tryz.prog 128 #[.int .i64 k, .string s] w fun e w' => e = .returned (.tuple #[.string (valueS k s).1, .int .i64 (valueS k s).2]) ∧ Below w.heap.size w w' := by
 have HC := Zh (clean_any s hs w hT)
 by_cases h3 : k = 3
 ·
  subst h3; have H := Zh (tcanon_any s hs w hT); have HV := Zh (show valueS 3 s = telS s from rfl); clear hT hM hD
  go_enter Tryz.func128, Tryz.ntmps128
  go_wp2_with (go_at_call 141; (with_reducible refine (H.out).mono ?_); rintro e w1 ⟨rfl, hb⟩; have HB1 := Zh hb; clear hb)
  go_ret2
  exact ⟨by rw [HV.out]; rfl, HB1.out⟩
 by_cases h4 : k = 4
 ·
  subst h4; have H := Zh (mcanon_any s hs w hT hM); have HV := Zh (show valueS 4 s = mailS s from rfl); clear hT hM hD
  go_enter Tryz.func128, Tryz.ntmps128
  go_wp2_with (go_at_call 142; (with_reducible refine (H.out).mono ?_); rintro e w1 ⟨rfl, hb⟩; have HB1 := Zh hb; clear hb)
  go_ret2
  exact ⟨by rw [HV.out]; rfl, HB1.out⟩
 have d3 : (k == 3) = false := by simpa using h3
 have d4 : (k == 4) = false := by simpa using h4
 have HV := Zh (show valueS k s = if k = 5 ∧ (cleanS s).2 = 0 then ((cleanS s).1, dayE (cleanS s).1) else cleanS s by unfold valueS; rw [if_neg h3, if_neg h4]); have hle := clean_le s hs; obtain ⟨⟨t, e0⟩, ht⟩ : ∃ t, cleanS s = t := ⟨_, rfl⟩; rw [ht] at HC HV hle; simp only at HV hle; have HTD := Zh hD; clear h3 h4 ht hT hM hD
 by_cases h0 : e0 = 0
 ·
  have c0 : (e0 == 0) = true := by simpa using h0
  by_cases h5 : k = 5
  ·
   have d5 : (k == 5) = true := by simpa using h5
   have H0 := Zh (show valueS k s = (t, dayE t) by rw [HV.out, if_pos ⟨h5, h0⟩]); have HP := Zh (fun v (h : Below w.heap.size w v) => Day.parse_any t hle v (Day.tab_on HTD.out h)); rw [dayE_val] at HP; clear h5 h0 HV
   go_enter Tryz.func128, Tryz.ntmps128
   go_wp2_with (go_at_call 143; (with_reducible refine (HC.out).mono ?_); rintro e w1 ⟨rfl, hb⟩; have HB1 := Zh hb; clear hb)
   go_wp2_with (go_at_call 144; (with_reducible refine (HP.out _ HB1.out).mono ?_); rintro e w2 ⟨rfl, hb⟩; have HB2 := Zh hb; clear hb)
   go_ret2
   exact ⟨by rw [H0.out]; rfl, HB1.out.trans (HB2.out.mono HB1.out.size)⟩
  ·
   have d5 : (k == 5) = false := by simpa using h5
   have H0 := Zh (show valueS k s = (t, e0) by rw [HV.out, if_neg (fun h => h5 h.1)]); clear h5 h0 HV
   go_enter Tryz.func128, Tryz.ntmps128
   go_wp2_with (go_at_call 143; (with_reducible refine (HC.out).mono ?_); rintro e w1 ⟨rfl, hb⟩; have HB1 := Zh hb; clear hb)
   go_ret2
   exact ⟨by rw [H0.out]; rfl, HB1.out⟩
 ·
  have c0 : (e0 == 0) = false := by simpa using h0
  have H0 := Zh (show valueS k s = (t, e0) by rw [HV.out, if_neg (fun h => h0 h.2)]); clear h0 HV
  go_enter Tryz.func128, Tryz.ntmps128
  go_wp2_with (go_at_call 143; (with_reducible refine (HC.out).mono ?_); rintro e w1 ⟨rfl, hb⟩; have HB1 := Zh hb; clear hb)
  go_ret2
  exact ⟨by rw [H0.out]; rfl, HB1.out⟩
attribute [local go_sem ↓] Go.wp_at_zero Go.wp_at_succ
structure Fx2 (w0 wr : World) (B C : Nat) (k l : Int) (v : ByteArray) (k2 l2 : Int) (v2 : ByteArray) : Prop where
 one : Blk wr B 92 #[.int .i64 k, .int .i64 l, .string v]
 two : Blk wr C 92 #[.int .i64 k2, .int .i64 l2, .string v2]
 bel : Below w0.heap.size w0 wr
theorem Fx2.step {w0 wr w' : World} {B C : Nat} {k l : Int} {v : ByteArray} {k2 l2 : Int} {v2 : ByteArray} (h : Fx2 w0 wr B C k l v k2 l2 v2) (hb : Below wr.heap.size wr w') : Fx2 w0 w' B C k l v k2 l2 v2 :=
 ⟨h.one.below hb h.one.lt, h.two.below hb h.two.lt, h.bel.trans (hb.mono h.bel.size)⟩
theorem Fx2.new (w : World) (k l : Int) (v : ByteArray) (k2 l2 : Int) (v2 : ByteArray) : Fx2 w ((w.alloc (.cells #[.int .i64 k, .int .i64 l, .string v] 92)).alloc (.cells #[.int .i64 k2, .int .i64 l2, .string v2] 92)) w.heap.size (w.heap.size + 1) k l v k2 l2 v2 :=
 ⟨(Blk.new w 92 _).alloc _, by have := Blk.new (w.alloc (.cells #[.int .i64 k, .int .i64 l, .string v] 92)) 92 #[.int .i64 k2, .int .i64 l2, .string v2]; simpa using this, two_boxes _ _ _ _⟩
theorem canon_out {cs : Array Value} (hc : cs.size = 3) {R : Ending → World → Prop} {a : Act} {w : World} {g : Nat} (h2 : a.tmps.getD 2 undef = .pointer (some ⟨g, 0, none⟩)) (hd : a.defers = []) (hg : Blk w g 92 cs)
  (hR : R (.returned (.tuple #[.agg cs, a.tmps.getD 3 undef])) w) : bodyPost Tryz.prog Tryz.f109 R .ret a w :=
 bodyPost_ret (Day.results_cell1 (fn := Tryz.f109) rfl a.tmps Tryz.prog w g 92 cs (0, 0) _ h2 hg Tryz.underlying92 (by rw [hc]; rfl)) hd hR
theorem put3 {w : World} {g : Nat} {ty : TypeId} {a b c : Value} (h : Blk w g ty #[a, b, c]) (x y z : Value) : Blk (((w.setCell ⟨g, 0, none⟩ x).setCell ⟨g, 1, none⟩ y).setCell ⟨g, 2, none⟩ z) g ty #[x, y, z] := ((h.set_ 0 x).set_ 1 y).set_ 2 z
theorem bel3 {w0 w : World} {g B : Nat} (h : Below B w0 w) (hg : B ≤ g) (x y z : Value) : Below B w0 (((w.setCell ⟨g, 0, none⟩ x).setCell ⟨g, 1, none⟩ y).setCell ⟨g, 2, none⟩ z) := ((h.setCell (p := ⟨g, 0, none⟩) hg x).setCell (p := ⟨g, 1, none⟩) hg y).setCell (p := ⟨g, 2, none⟩) hg z
def canonV (k l : Int) (v : ByteArray) : Value := if (kindW k).toList.isEmpty = true ∨ labelledB k l = false then .tuple #[fieldV 0 0 ⟨#[]⟩, .int .i64 1] else if (valueS k v).2 = 0 then .tuple #[fieldV k l (valueS k v).1, .int .i64 0] else .tuple #[fieldV 0 0 ⟨#[]⟩, .int .i64 (valueS k v).2]
theorem fcanon_any (k l : Int) (v : ByteArray) (hs : v.size ≤ 1000000) (w : World) (hT : Tabs w) (hM : Mx w) (hD : Day.Tab w.heap.size w) : Calls Tryz.prog 109 #[fieldV k l v] w fun e w' => e = .returned (canonV k l v) ∧ Below w.heap.size w w' := by
 have HK := Zh (fun w => kindWord_any k w); have HL := Zh (fun w => labelled_any k l w); have HX := Zh (Fx2.new w k l v 0 0 ⟨#[]⟩); have HV := Zh (show canonV k l v = if (kindW k).toList.isEmpty = true ∨ labelledB k l = false then .tuple #[fieldV 0 0 ⟨#[]⟩, .int .i64 1] else if (valueS k v).2 = 0 then .tuple #[fieldV k l (valueS k v).1, .int .i64 0] else .tuple #[fieldV 0 0 ⟨#[]⟩, .int .i64 (valueS k v).2] from rfl); obtain ⟨K, hK⟩ : ∃ K, kindW k = K := ⟨_, rfl⟩; obtain ⟨b, hb⟩ : ∃ b, labelledB k l = b := ⟨_, rfl⟩; obtain ⟨R, hR⟩ : ∃ R, canonV k l v = R := ⟨_, rfl⟩; rw [hK, hb, hR] at HV; rw [hK] at HK; rw [hb] at HL; rw [hR]; clear hK hb hR
 cases hk : K.toList.isEmpty with
 | true =>
  have H0 := Zh (show R = .tuple #[fieldV 0 0 ⟨#[]⟩, .int .i64 1] by rw [HV.out, if_pos (.inl hk)]); clear hT hM hD HV
  go_enter Tryz.func109, Tryz.ntmps109
  go_wp2_with (go_at_call 107; (with_reducible refine (HK.out _).mono ?_); rintro e w1 ⟨rfl, hw⟩; replace hw := hw.symm; subst hw)
  (try simp only [Exit.inBlock, Exit.then])
  rw [H0.out]
  exact canon_out (cs := #[.int .i64 0, .int .i64 0, .string ⟨#[]⟩]) (g := w.heap.size + 1) rfl rfl rfl HX.out.two ⟨rfl, HX.out.bel⟩
 | false =>
  cases b with
  | false =>
   have H0 := Zh (show R = .tuple #[fieldV 0 0 ⟨#[]⟩, .int .i64 1] by rw [HV.out, if_pos (.inr rfl)]); clear hT hM hD HV
   go_enter Tryz.func109, Tryz.ntmps109
   go_wp2_with (first | (go_at_call 107; (with_reducible refine (HK.out _).mono ?_); rintro e w1 ⟨rfl, hw⟩; replace hw := hw.symm; subst hw) | (go_at_call 127; (with_reducible refine (HL.out _).mono ?_); rintro e w1 ⟨rfl, hw⟩; replace hw := hw.symm; subst hw))
   (try simp only [Exit.inBlock, Exit.then])
   rw [H0.out]
   exact canon_out (cs := #[.int .i64 0, .int .i64 0, .string ⟨#[]⟩]) (g := w.heap.size + 1) rfl rfl rfl HX.out.two ⟨rfl, HX.out.bel⟩
  | true =>
   have HV2 := Zh (show R = if (valueS k v).2 = 0 then .tuple #[fieldV k l (valueS k v).1, .int .i64 0] else .tuple #[fieldV 0 0 ⟨#[]⟩, .int .i64 (valueS k v).2] by rw [HV.out, if_neg (by rw [hk]; simp)]); have HVA := Zh (value_any k v hs _ (tabs_on hT HX.out.bel (tabs_size hT)) (hM.keep HX.out.bel hM.lt) (Day.tab_on hD HX.out.bel)); obtain ⟨⟨t, e0⟩, ht⟩ : ∃ t, valueS k v = t := ⟨_, rfl⟩; rw [ht] at HV2 HVA; clear hT hM hD HV ht
   by_cases h0 : e0 = 0
   ·
    subst h0; have H0 := Zh (show R = .tuple #[fieldV k l t, .int .i64 0] from HV2.out); clear HV2
    go_enter Tryz.func109, Tryz.ntmps109
    go_wp2_with (first | (go_at_call 107; (with_reducible refine (HK.out _).mono ?_); rintro e w1 ⟨rfl, hw⟩; replace hw := hw.symm; subst hw) | (go_at_call 127; (with_reducible refine (HL.out _).mono ?_); rintro e w1 ⟨rfl, hw⟩; replace hw := hw.symm; subst hw) | (go_at_call 128; (with_reducible refine (HVA.out).mono ?_); rintro e w3 ⟨rfl, hb⟩; have HX3 := Zh (HX.out.step hb); have a0 := HX3.out.one.cell 0; have a1 := HX3.out.one.cell 1; have a2 := HX3.out.one.cell 2; have f2 := HX3.out.one.frozen 2; have b0 := HX3.out.two.cell 0; have b1 := HX3.out.two.cell 1; have b2 := HX3.out.two.cell 2; have g0 := HX3.out.two.frozen 0; have g1 := HX3.out.two.frozen 1; have g2 := HX3.out.two.frozen 2; clear hb))
    (try simp only [Exit.inBlock, Exit.then])
    rw [H0.out]; refine canon_out (cs := #[.int .i64 k, .int .i64 l, .string t]) (g := w.heap.size + 1) rfl rfl rfl ?_ ⟨rfl, ?_⟩
    ·
     exact put3 (HX3.out.two.far (by show w.heap.size + 1 ≠ w.heap.size; omega) _) _ _ _
    ·
     exact bel3 (HX3.out.bel.setCell (p := ⟨w.heap.size, 2, none⟩) (Nat.le_refl _) _) (Nat.le_succ _) _ _ _
   ·
    have H0 := Zh (show R = .tuple #[fieldV 0 0 ⟨#[]⟩, .int .i64 e0] by rw [HV2.out, if_neg h0]); have d0 : (e0 != 0) = true := by simpa using h0
    clear HV2 h0
    go_enter Tryz.func109, Tryz.ntmps109
    go_wp2_with (first | (go_at_call 107; (with_reducible refine (HK.out _).mono ?_); rintro e w1 ⟨rfl, hw⟩; replace hw := hw.symm; subst hw) | (go_at_call 127; (with_reducible refine (HL.out _).mono ?_); rintro e w1 ⟨rfl, hw⟩; replace hw := hw.symm; subst hw) | (go_at_call 128; (with_reducible refine (HVA.out).mono ?_); rintro e w3 ⟨rfl, hb⟩; have HX3 := Zh (HX.out.step hb); have b0 := HX3.out.two.cell 0; have b1 := HX3.out.two.cell 1; have b2 := HX3.out.two.cell 2; have g0 := HX3.out.two.frozen 0; have g1 := HX3.out.two.frozen 1; have g2 := HX3.out.two.frozen 2; clear hb))
    (try simp only [Exit.inBlock, Exit.then])
    rw [H0.out]; refine canon_out (cs := #[.int .i64 0, .int .i64 0, .string ⟨#[]⟩]) (g := w.heap.size + 1) rfl rfl rfl ?_ ⟨rfl, ?_⟩
    ·
     exact put3 HX3.out.two _ _ _
    ·
     exact bel3 HX3.out.bel (Nat.le_succ _) _ _ _
attribute [local go_sem ↓] Go.wp_at_zero Go.wp_at_succ
def mayF (k l : Int) (v : ByteArray) : Bool := !(kindW k).toList.isEmpty && labelledB k l && ((valueS k v).2 == 0) && ((valueS k v).1.toList == v.toList)
theorem canonV_cases (k l : Int) (v : ByteArray) : (∃ e, e ≠ 0 ∧ canonV k l v = .tuple #[fieldV 0 0 ⟨#[]⟩, .int .i64 e] ∧ mayF k l v = false) ∨ (∃ t, canonV k l v = .tuple #[fieldV k l t, .int .i64 0] ∧ mayF k l v = (t.toList == v.toList)) := by
 unfold canonV mayF
 cases h1 : (kindW k).toList.isEmpty with
 | true => exact .inl ⟨1, by decide, by rw [if_pos (.inl rfl)], by simp⟩
 | false =>
  cases h2 : labelledB k l with
  | false => exact .inl ⟨1, by decide, by rw [if_pos (.inr rfl)], by simp⟩
  | true =>
   rw [if_neg (by simp)]
   by_cases h3 : (valueS k v).2 = 0
   ·
    exact .inr ⟨(valueS k v).1, by rw [if_pos h3], by rw [h3]; simp⟩
   ·
    refine .inl ⟨(valueS k v).2, h3, by rw [if_neg h3], ?_⟩; have : ((valueS k v).2 == 0) = false := by simpa using h3
    rw [this]; simp
theorem fmay_any (k l : Int) (v : ByteArray) (hs : v.size ≤ 1000000) (w : World) (hT : Tabs w) (hM : Mx w) (hD : Day.Tab w.heap.size w) : Calls Tryz.prog 99 #[fieldV k l v] w fun e w' => e = .returned (.bool (mayF k l v)) ∧ Below w.heap.size w w' := by
 have hb0 : Below w.heap.size w (w.alloc (.cells #[.int .i64 k, .int .i64 l, .string v] 92)) := (Below.refl _ _).alloc (Nat.le_refl _) _; have HB0 := Zh hb0; have HX := Zh (Blk.new w 92 #[.int .i64 k, .int .i64 l, .string v]); have HC := Zh (fcanon_any k l v hs _ (tabs_on hT hb0 (tabs_size hT)) (hM.keep hb0 hM.lt) (Day.tab_on hD hb0)); obtain ⟨r, hr⟩ : ∃ r, mayF k l v = r := ⟨_, rfl⟩
 rcases canonV_cases k l v with ⟨e, he, h1, h2⟩ | ⟨t, h1, h2⟩
 ·
  rw [hr] at h2 ⊢; rw [h1] at HC; have d : (e == 0) = false := by simpa using he
  subst h2; clear hb0 hT hM hD h1 hr he
  go_enter Tryz.func99, Tryz.ntmps99
  go_wp2_with (go_at_call 109; (with_reducible refine (HC.out).mono ?_); rintro e w3 ⟨rfl, hb⟩; have HX3 := Zh (HX.out.below hb HX.out.lt); have HB3 := Zh (HB0.out.trans (hb.mono HB0.out.size)); clear hb)
  go_ret
  exact ⟨rfl, HB3.out.alloc HB3.out.size _⟩
 ·
  rw [hr] at h2 ⊢; rw [h1] at HC
  cases hq : (t.toList == v.toList)
  all_goals (
   rw [hq] at h2; subst h2; clear hb0 hT hM hD h1 hr
   go_enter Tryz.func99, Tryz.ntmps99
   go_wp2_with (go_at_call 109; (with_reducible refine (HC.out).mono ?_); rintro e w3 ⟨rfl, hb⟩; have HX3 := Zh (HX.out.below hb HX.out.lt); have a0 := ((HX3.out.alloc (.cells #[.int .i64 k, .int .i64 l, .string t] 92)).cell 0); have a1 := ((HX3.out.alloc (.cells #[.int .i64 k, .int .i64 l, .string t] 92)).cell 1); have a2 := ((HX3.out.alloc (.cells #[.int .i64 k, .int .i64 l, .string t] 92)).cell 2); have HB3 := Zh (HB0.out.trans (hb.mono HB0.out.size)); clear hb)
   go_ret
   exact ⟨rfl, HB3.out.alloc HB3.out.size _⟩)
attribute [local go_sem ↓] Go.wp_at_zero Go.wp_at_succ
def lineF (k l : Int) (v : ByteArray) : ByteArray := if mayF k l v = true then (headW k l ++ ⟨#[58]⟩) ++ v else ⟨#[]⟩
theorem head_size (k l : Int) : ((headW k l).size : Int) ≤ 9 := by
 unfold headW
 have h1 := kindW_size k; have h2 := labelW_size l
 split
 ·
  omega
 ·
  have y : (⟨#[59]⟩ : ByteArray).size = 1 := rfl
  rw [ByteArray.size_append, ByteArray.size_append, y]; omega
theorem fline_any (k l : Int) (v : ByteArray) (hs : v.size ≤ 1000000) (w : World) (hT : Tabs w) (hM : Mx w) (hD : Day.Tab w.heap.size w) : Calls Tryz.prog 117 #[fieldV k l v] w fun e w' => e = .returned (.string (lineF k l v)) ∧ Below w.heap.size w w' := by
 have hb0 : Below w.heap.size w (w.alloc (.cells #[.int .i64 k, .int .i64 l, .string v] 92)) := (Below.refl _ _).alloc (Nat.le_refl _) _; have HB0 := Zh hb0; have HX := Zh (Blk.new w 92 #[.int .i64 k, .int .i64 l, .string v]); have HC := Zh (fmay_any k l v hs _ (tabs_on hT hb0 (tabs_size hT)) (hM.keep hb0 hM.lt) (Day.tab_on hD hb0)); have HH := Zh (fun w => head_any k l w); have hh := head_size k l; have hsI : (v.size : Int) ≤ 1000000 := by omega
 have z : ((⟨#[58]⟩ : ByteArray).size : Int) = 1 := rfl; obtain ⟨r, hr⟩ : ∃ r, lineF k l v = r := ⟨_, rfl⟩; have HR := Zh (show r = if mayF k l v = true then (headW k l ++ ⟨#[58]⟩) ++ v else ⟨#[]⟩ from hr.symm); rw [hr]; obtain ⟨m, hm⟩ : ∃ m, mayF k l v = m := ⟨_, rfl⟩; obtain ⟨A, hA⟩ : ∃ A, headW k l = A := ⟨_, rfl⟩; rw [hm, hA] at HR; rw [hm] at HC; rw [hA] at HH hh; have hA1 : ((A ++ (⟨#[58]⟩ : ByteArray)).size : Int) ≤ 10 := by rw [ByteArray.size_append]; omega
 clear hb0 hT hM hD hr hm hA
 cases m with
 | false =>
  have H0 := Zh (show r = ⟨#[]⟩ from HR.out)
  go_enter Tryz.func117, Tryz.ntmps117
  go_wp2_with (go_at_call 99; (with_reducible refine (HC.out).mono ?_); rintro e w3 ⟨rfl, hb⟩; have HB3 := Zh (HB0.out.trans (hb.mono HB0.out.size)); clear hb)
  go_ret
  exact ⟨by rw [H0.out]; rfl, HB3.out⟩
 | true =>
  have H0 := Zh (show r = (A ++ ⟨#[58]⟩) ++ v from HR.out)
  go_enter Tryz.func117, Tryz.ntmps117
  go_wp2_with (go_at_call 99; (with_reducible refine (HC.out).mono ?_); rintro e w3 ⟨rfl, hb⟩; have HX3 := Zh (HX.out.below hb HX.out.lt); have a0 := HX3.out.cell 0; have a1 := HX3.out.cell 1; have a2 := HX3.out.cell 2; have HB3 := Zh (HB0.out.trans (hb.mono HB0.out.size)); clear hb)
  go_quiet ((go_at_call 98; exact Calls.quiet_of_same (HH.out _)))
  go_wp2
  go_ret
  exact ⟨by rw [H0.out]; rfl, by first | exact HB3.out | exact below_drewN HB3.out _⟩
end Go.Proofs.YtphijnkiiokieaaGreatDoor
namespace Go.Proofs.YtphijnkiiokieaaGreatDoor
open Go.RowKit
theorem heads_unlike : ∀ k : Fin 7, ∀ l : Fin 4, ∀ k2 : Fin 7, ∀ l2 : Fin 4, 1 ≤ k.val → 1 ≤ k2.val → (headW (k.val : Int) (l.val : Int)).data.toList = (headW (k2.val : Int) (l2.val : Int)).data.toList → k = k2 ∧ l = l2 := by decide +kernel
theorem heads_colon : ∀ k : Fin 7, ∀ l : Fin 4, (58 : UInt8) ∉ (headW (k.val : Int) (l.val : Int)).data.toList := by decide +kernel
theorem head_one {k l k2 l2 : Int} (h1 : 1 ≤ k) (h2 : k ≤ 6) (h3 : 0 ≤ l) (h4 : l ≤ 3) (g1 : 1 ≤ k2) (g2 : k2 ≤ 6) (g3 : 0 ≤ l2) (g4 : l2 ≤ 3) (e : headW k l = headW k2 l2) : k = k2 ∧ l = l2 := by
 obtain ⟨a, rfl⟩ : ∃ a : Nat, k = (a : Int) := ⟨k.toNat, by omega⟩; obtain ⟨b, rfl⟩ : ∃ b : Nat, l = (b : Int) := ⟨l.toNat, by omega⟩; obtain ⟨c, rfl⟩ : ∃ c : Nat, k2 = (c : Int) := ⟨k2.toNat, by omega⟩; obtain ⟨d, rfl⟩ : ∃ d : Nat, l2 = (d : Int) := ⟨l2.toNat, by omega⟩; have h := heads_unlike ⟨a, by omega⟩ ⟨b, by omega⟩ ⟨c, by omega⟩ ⟨d, by omega⟩ (by show 1 ≤ a; omega) (by show 1 ≤ c; omega) (by show (headW (a : Int) (b : Int)).data.toList = (headW (c : Int) (d : Int)).data.toList; rw [e]); have e1 := congrArg Fin.val h.1; have e2 := congrArg Fin.val h.2
 exact ⟨by have : a = c := e1; omega, by have : b = d := e2; omega⟩
theorem head_colon {k l : Int} (h1 : 0 ≤ k) (h2 : k ≤ 6) (h3 : 0 ≤ l) (h4 : l ≤ 3) : (58 : UInt8) ∉ (headW k l).data.toList := by
 obtain ⟨a, rfl⟩ : ∃ a : Nat, k = (a : Int) := ⟨k.toNat, by omega⟩; obtain ⟨b, rfl⟩ : ∃ b : Nat, l = (b : Int) := ⟨l.toNat, by omega⟩
 exact heads_colon ⟨a, by omega⟩ ⟨b, by omega⟩
theorem may_kinds {k l : Int} {v : ByteArray} (h : mayF k l v = true) : 1 ≤ k ∧ k ≤ 6 ∧ 0 ≤ l ∧ l ≤ 3 := by
 unfold mayF at h
 simp only [Bool.and_eq_true] at h; obtain ⟨⟨⟨h1, h2⟩, _⟩, _⟩ := h
 constructor
 ·
  false_or_by_contra
  have : kindW k = ⟨#[]⟩ := by unfold kindW; rw [if_neg (by omega), if_neg (by omega), if_neg (by omega), if_neg (by omega), if_neg (by omega), if_neg (by omega)]
  rw [this] at h1
  exact absurd h1 (by decide +kernel)
 constructor
 ·
  false_or_by_contra
  have : kindW k = ⟨#[]⟩ := by unfold kindW; rw [if_neg (by omega), if_neg (by omega), if_neg (by omega), if_neg (by omega), if_neg (by omega), if_neg (by omega)]
  rw [this] at h1
  exact absurd h1 (by decide +kernel)
 ·
  unfold labelledB at h2
  split at h2
  ·
   omega
  ·
   split at h2
   ·
    omega
   ·
    split at h2
    ·
     omega
    ·
     cases h2
end Go.Proofs.YtphijnkiiokieaaGreatDoor
namespace Go.Proofs.YtphijnkiiokieaaGreatDoor
open Go.RowKit
open Go.Lib hiding intOf
def pairs : List (Int × Int) := [(1, 0), (1, 1), (1, 2), (1, 3), (2, 0), (2, 1), (2, 2), (2, 3), (3, 0), (3, 1), (3, 2), (3, 3), (4, 0), (4, 1), (4, 2), (4, 3), (5, 0), (5, 1), (5, 2), (5, 3), (6, 0), (6, 1), (6, 2), (6, 3)]
def fits (h v : ByteArray) (k l : Int) : Bool := (h.toList == (headW k l).toList) && mayF k l v
structure Fld where
 k : Int
 l : Int
 v : ByteArray
 e : Int
def noF : Fld := ⟨0, 0, ⟨#[]⟩, 1⟩
def cutH (s : ByteArray) : ByteArray := ⟨(cut s.data.toList [58]).1.toArray⟩
def cutV (s : ByteArray) : ByteArray := ⟨(cut s.data.toList [58]).2.1.toArray⟩
def cutO (s : ByteArray) : Bool := (cut s.data.toList [58]).2.2
def findF (h v : ByteArray) : Fld := match pairs.find? (fun p => fits h v p.1 p.2) with
 | some p => ⟨p.1, p.2, v, 0⟩
 | none => noF
def parseF (s : ByteArray) : Fld := if cutO s = true then findF (cutH s) (cutV s) else noF
theorem in_pairs {k l : Int} (h1 : 1 ≤ k) (h2 : k ≤ 6) (h3 : 0 ≤ l) (h4 : l ≤ 3) : (k, l) ∈ pairs := by
 rcases (show k = 1 ∨ k = 2 ∨ k = 3 ∨ k = 4 ∨ k = 5 ∨ k = 6 by omega) with rfl | rfl | rfl | rfl | rfl | rfl <;> rcases (show l = 0 ∨ l = 1 ∨ l = 2 ∨ l = 3 by omega) with rfl | rfl | rfl | rfl <;> decide
theorem pairs_in : ∀ p ∈ pairs, 1 ≤ p.1 ∧ p.1 ≤ 6 ∧ 0 ≤ p.2 ∧ p.2 ≤ 3 := by decide
theorem fits_head {h v : ByteArray} {k l : Int} (hf : fits h v k l = true) : h = headW k l ∧ mayF k l v = true := by
 unfold fits at hf
 rw [Bool.and_eq_true] at hf; refine ⟨bs_ext ?_, hf.2⟩; have := hf.1; simp only [ByteArray.toList_eq] at this
 exact eq_of_beq this
theorem find_one {h v : ByteArray} {k l : Int} (h1 : 1 ≤ k) (h2 : k ≤ 6) (h3 : 0 ≤ l) (h4 : l ≤ 3) (hf : fits h v k l = true) : findF h v = ⟨k, l, v, 0⟩ := by
 unfold findF
 cases hq : pairs.find? (fun p => fits h v p.1 p.2) with
 | none =>
  have := List.find?_eq_none.1 hq (k, l) (in_pairs h1 h2 h3 h4)
  exact absurd hf this
 | some p =>
  have hp := List.find?_some hq; obtain ⟨g1, g2, g3, g4⟩ := pairs_in p (List.mem_of_find?_eq_some hq); obtain ⟨e1, e2⟩ := head_one h1 h2 h3 h4 g1 g2 g3 g4 ((fits_head hf).1.symm.trans (fits_head hp).1); rw [e1, e2]
theorem find_none {h v : ByteArray} (hn : ∀ k l : Int, 1 ≤ k → k ≤ 6 → 0 ≤ l → l ≤ 3 → fits h v k l = false) : findF h v = noF := by
 unfold findF
 have : pairs.find? (fun p => fits h v p.1 p.2) = none := List.find?_eq_none.2 fun p hp => by
  obtain ⟨g1, g2, g3, g4⟩ := pairs_in p hp
  rw [hn _ _ g1 g2 g3 g4]; decide
 rw [this]
theorem find_cases (h v : ByteArray) : (∃ k l, 1 ≤ k ∧ k ≤ 6 ∧ 0 ≤ l ∧ l ≤ 3 ∧ h = headW k l ∧ mayF k l v = true ∧ findF h v = ⟨k, l, v, 0⟩) ∨ findF h v = noF := by
 unfold findF
 cases hq : pairs.find? (fun p => fits h v p.1 p.2) with
 | none => exact .inr rfl
 | some p =>
  have hp := List.find?_some hq; obtain ⟨g1, g2, g3, g4⟩ := pairs_in p (List.mem_of_find?_eq_some hq); obtain ⟨e1, e2⟩ := fits_head hp
  exact .inl ⟨p.1, p.2, g1, g2, g3, g4, e1, e2, rfl⟩
theorem parse_cases (s : ByteArray) : (∃ k l v, mayF k l v = true ∧ lineF k l v = s ∧ parseF s = ⟨k, l, v, 0⟩ ∧ v.size ≤ s.size) ∨ parseF s = noF := by
 unfold parseF
 by_cases hc : (58 : UInt8) ∈ s.data.toList
 ·
  obtain ⟨a, b, e, ha⟩ := first_at _ _ hc; have hcut := cut_has a b 58 ha; rw [← e] at hcut; have h1 : cutO s = true := by unfold cutO; rw [hcut]
  rw [if_pos h1]
  rcases find_cases (cutH s) (cutV s) with ⟨k, l, _, _, _, _, h, hm, hf⟩ | h
  ·
   refine .inl ⟨k, l, cutV s, hm, ?_, hf, ?_⟩
   ·
    unfold lineF
    rw [if_pos hm, ← h]
    apply bs_ext
    rw [app_list, app_list, e]
    unfold cutH cutV
    rw [hcut]
    simp
   ·
    show (cutV s).size ≤ s.size
    unfold cutV
    rw [hcut]
    show b.toArray.size ≤ s.size
    have : s.data.toList.length = s.size := by simp
    rw [e] at this
    simp at this ⊢
    omega
  ·
   exact .inr h
 ·
  have hcut := cut_not s.data.toList 58 hc; have h1 : cutO s = false := by unfold cutO; rw [hcut]
  rw [h1]
  exact .inr rfl
end Go.Proofs.YtphijnkiiokieaaGreatDoor
namespace Go.Proofs.YtphijnkiiokieaaGreatDoor
open Go.RowKit
theorem cleanOf_ok {v c : Bool} {t : ByteArray} (h : (cleanOf v c t).2 = 0) : v = true ∧ c = false ∧ t ≠ ⟨#[]⟩ ∧ (t.size : Int) ≤ 64 ∧ cleanOf v c t = (t, 0) := by
 unfold cleanOf at h ⊢
 split at h
 ·
  simp at h
 ·
  split at h
  ·
   simp at h
  ·
   split at h
   ·
    simp at h
   ·
    rename_i h1 h2 h3
    rw [if_neg h1, if_neg h2, if_neg h3]
    cases v <;> cases c <;> simp_all
theorem clean_mk (s t : ByteArray) (hv : Lib.validD s.data.toList = true) (hc : s.data.toList.any ctl = false) (hs : sq s.data.toList = t.data.toList) (h0 : t ≠ ⟨#[]⟩) (h1 : (t.size : Int) ≤ 64) : cleanS s = (t, 0) := by
 unfold cleanS
 rw [hv, hc, squeezeS_sq, hs]
 unfold cleanOf
 rw [if_neg (by decide), if_neg h0, if_neg (by show ¬ 64 < (t.size : Int); omega)]
theorem clean_ok (a : ByteArray) (h : (cleanS a).2 = 0) : Lib.validD a.data.toList = true ∧ a.data.toList.any ctl = false ∧ ∃ t : ByteArray, t.data.toList = sq a.data.toList ∧ t ≠ ⟨#[]⟩ ∧ (t.size : Int) ≤ 64 ∧ cleanS a = (t, 0) := by
 have := cleanOf_ok h
 exact ⟨this.1, this.2.1, squeezeS a, by rw [squeezeS_sq], this.2.2.1, this.2.2.2.1, this.2.2.2.2⟩
theorem clean_twice (a t : ByteArray) (hv : Lib.validD a.data.toList = true) (hc : a.data.toList.any ctl = false) (hs : t.data.toList = sq a.data.toList) (h0 : t ≠ ⟨#[]⟩) (h1 : (t.size : Int) ≤ 64) : cleanS t = (t, 0) :=
 clean_mk t t (by rw [hs]; exact (sq_whole _ hv).valid) (by rw [hs]; exact sq_ctl _ hc) (by rw [hs, sq_sq]) h0 h1
theorem clean_self (a : ByteArray) (h : (cleanS a).2 = 0) : cleanS (cleanS a).1 = ((cleanS a).1, 0) := by
 obtain ⟨hv, hc, t, hs, h0, h1, e⟩ := clean_ok a h; rw [e]
 exact clean_twice a t hv hc hs h0 h1
end Go.Proofs.YtphijnkiiokieaaGreatDoor
namespace Go.Proofs.YtphijnkiiokieaaGreatDoor
open Go.RowKit
open Go.Lib hiding intOf
theorem value_self (k : Int) (s : ByteArray) (h : (valueS k s).2 = 0) : valueS k (valueS k s).1 = ((valueS k s).1, 0) := by
 unfold valueS at h ⊢
 by_cases h3 : k = 3
 ·
  rw [if_pos h3] at h ⊢; rw [if_pos h3]
  rcases tel_cases s with ⟨_, h2⟩ | ⟨h1, _⟩
  ·
   exact tel_self h2
  ·
   exact absurd h h1
 rw [if_neg h3] at h ⊢; rw [if_neg h3]
 by_cases h4 : k = 4
 ·
  rw [if_pos h4] at h ⊢; rw [if_pos h4]
  rcases mail_cases s with ⟨_, h2⟩ | ⟨h1, _⟩
  ·
   exact mail_self h2
  ·
   exact absurd h h1
 rw [if_neg h4] at h ⊢; rw [if_neg h4]
 by_cases h5 : k = 5 ∧ (cleanS s).2 = 0
 ·
  rw [if_pos h5] at h ⊢; have hc := clean_self s h5.2; simp only at h ⊢; rw [hc, if_pos ⟨h5.1, rfl⟩]
  simp only
  rw [h]
 ·
  rw [if_neg h5] at h ⊢; have hc := clean_self s h; rw [hc]
  split
  ·
   rename_i h6; exact absurd ⟨h6.1, h⟩ h5
  ·
   rfl
theorem value_size (k : Int) (s : ByteArray) (h : (valueS k s).2 = 0) : (valueS k s).1.size ≤ 64 := by
 unfold valueS at h ⊢
 by_cases h3 : k = 3
 ·
  rw [if_pos h3] at h ⊢
  rcases tel_cases s with ⟨_, h2⟩ | ⟨h1, _⟩
  ·
   have := (tel_plain h2).2; have e : (telS s).1.data.toList.length = (telS s).1.size := by simp
   omega
  ·
   exact absurd h h1
 rw [if_neg h3] at h ⊢
 by_cases h4 : k = 4
 ·
  rw [if_pos h4] at h ⊢
  rcases mail_cases s with ⟨_, h2⟩ | ⟨h1, _⟩
  ·
   have := (mail_parts _ h2).len; have e : (mailS s).1.data.toList.length = (mailS s).1.size := by simp
   omega
  ·
   exact absurd h h1
 rw [if_neg h4] at h ⊢; have hcl : (cleanS s).2 = 0 → (cleanS s).1.size ≤ 64 := fun h => by
  obtain ⟨_, _, t, _, _, h1, e⟩ := clean_ok s h
  rw [e]; show t.size ≤ 64; omega
 by_cases h5 : k = 5 ∧ (cleanS s).2 = 0
 ·
  rw [if_pos h5] at h ⊢
  exact hcl h5.2
 ·
  rw [if_neg h5] at h ⊢
  exact hcl h
def fldV (f : Fld) : Value := .tuple #[fieldV f.k f.l f.v, .int .i64 f.e]
attribute [local go_sem ↓] Go.wp_at_zero Go.wp_at_succ
theorem parse_out {cs : Array Value} (hc : cs.size = 3) {R : Ending → World → Prop} {a : Act} {w : World} {g : Nat} (h2 : a.tmps.getD 2 undef = .pointer (some ⟨g, 0, none⟩)) (hd : a.defers = []) (hg : Blk w g 92 cs)
  (hR : R (.returned (.tuple #[.agg cs, a.tmps.getD 3 undef])) w) : bodyPost Tryz.prog Tryz.f86 R .ret a w :=
 bodyPost_ret (Day.results_cell1 (fn := Tryz.f86) rfl a.tmps Tryz.prog w g 92 cs (0, 0) _ h2 hg Tryz.underlying92 (by rw [hc]; rfl)) hd hR
def noBefore (h v : ByteArray) (k : Int) : Prop := ∀ a b : Int, 1 ≤ a → a < k → 0 ≤ b → b ≤ 3 → fits h v a b = false
def noIn (h v : ByteArray) (k l : Int) : Prop := ∀ b : Int, 0 ≤ b → b < l → fits h v k b = false
theorem noIn.next {h v : ByteArray} {k l : Int} (a : noIn h v k l) (b : fits h v k l = false) : noIn h v k (l + 1) := fun x h1 h2 => by
 by_cases e : x = l
 ·
  rw [e]; exact b
 ·
  exact a x h1 (by omega)
theorem noBefore.next {h v : ByteArray} {k : Int} (a : noBefore h v k) (b : noIn h v k 4) : noBefore h v (k + 1) := fun x y h1 h2 h3 h4 => by
 by_cases e : x = k
 ·
  rw [e]; exact b y h3 (by omega)
 ·
  exact a x y h1 (by omega) h3 h4
structure Pw (w wr : World) : Prop where
 res : Blk wr w.heap.size 92 #[.int .i64 0, .int .i64 0, .string ⟨#[]⟩]
 bel : Below w.heap.size w wr
theorem Pw.alloc {w wr : World} (h : Pw w wr) (o : Obj) : Pw w (wr.alloc o) := ⟨h.res.alloc o, h.bel.alloc h.bel.size o⟩
theorem Pw.step {w wr w' : World} (h : Pw w wr) (hb : Below wr.heap.size wr w') : Pw w w' := ⟨h.res.below hb h.res.lt, h.bel.trans (hb.mono h.bel.size)⟩
theorem cut_sz (s : ByteArray) : (cutH s).size ≤ s.size ∧ (cutV s).size ≤ s.size := by
 have : s.data.toList.length = s.size := by simp
 unfold cutH cutV
 by_cases h : (58 : UInt8) ∈ s.data.toList
 ·
  obtain ⟨a, b, e, ha⟩ := first_at _ _ h; have hcut := cut_has a b 58 ha; rw [← e] at hcut; rw [hcut]; rw [e] at this
  simp at this
  constructor
  ·
   show a.toArray.size ≤ _; simp; omega
  ·
   show b.toArray.size ≤ _; simp; omega
 ·
  rw [cut_not _ _ h]
  constructor
  ·
   show s.data.toList.toArray.size ≤ _; simp
  ·
   show ([] : List UInt8).toArray.size ≤ _; simp
theorem fparse_any (s : ByteArray) (hs : s.size ≤ 1000000) (w : World) (hT : Tabs w) (hM : Mx w) (hD : Day.Tab w.heap.size w) : Calls Tryz.prog 86 #[.string s] w fun e w' => e = .returned (fldV (parseF s)) ∧ Below w.heap.size w w' := by
 have hlt := hM.lt; have HT := Zh hT; have HD := Zh hD; have HMx := Zh hM; obtain ⟨m, hm⟩ := hM; have hm2 : (w.alloc (.cells #[.int .i64 0, .int .i64 0, .string ⟨#[]⟩] 92)).cell? ⟨0, 0, none⟩ = some (.int .i64 m) := by
  have hb0 : Below w.heap.size w (w.alloc (.cells #[.int .i64 0, .int .i64 0, .string ⟨#[]⟩] 92)) := (Below.refl _ _).alloc (Nat.le_refl _) _; simp only [World.cell?] at hm ⊢
  rw [hb0.block 0 hlt]; exact hm
 have hC := Tryz.strings_Cut s ⟨#[58]⟩ m _ (by omega) hm2; obtain ⟨z1, z2⟩ := cut_sz s; have hr0 : parseF s = if cutO s = true then findF (cutH s) (cutV s) else noF := rfl
 rw [show (⟨#[58]⟩ : ByteArray).data.toList = [58] from rfl] at hC; have hC2 : Calls Tryz.prog 97 #[.string s, .string ⟨#[58]⟩] (w.alloc (.cells #[.int .i64 0, .int .i64 0, .string ⟨#[]⟩] 92)) fun e w' => e = .returned (.tuple #[.string (cutH s), .string (cutV s), .bool (cutO s)]) ∧ ∃ n, w' = (w.alloc (.cells #[.int .i64 0, .int .i64 0, .string ⟨#[]⟩] 92)).drewN n := hC
 obtain ⟨h, hh⟩ : ∃ h, cutH s = h := ⟨_, rfl⟩; obtain ⟨v, hv⟩ : ∃ v, cutV s = v := ⟨_, rfl⟩; obtain ⟨o, ho⟩ : ∃ o, cutO s = o := ⟨_, rfl⟩; rw [hh, hv, ho] at hC2 hr0; rw [hv] at z2; obtain ⟨r, hr⟩ : ∃ r, parseF s = r := ⟨_, rfl⟩; rw [hr] at hr0 ⊢; have HR := Zh hr0; have HC := Zh hC2; have HV := Zh (show v.size ≤ 1000000 by omega); have HP0 := Zh (show ∀ n, Pw w ((w.alloc (.cells #[.int .i64 0, .int .i64 0, .string ⟨#[]⟩] 92)).drewN n) from fun n => ⟨(Blk.new w _ _).drewN n, below_drewN ((Below.refl _ _).alloc (Nat.le_refl _) _) n⟩); clear hm2 hr0 hr hC hC2 hh hv ho z1 z2 hm hT hD hlt hs
 cases o with
 | false =>
  have H0 := Zh (show r = noF from HR.out)
  go_enter Tryz.func86, Tryz.ntmps86
  go_wp2_with (go_at_call 97; (with_reducible refine (HC.out).mono ?_); rintro e w1 ⟨rfl, n1, hw⟩; subst hw; have HP1 := Zh (HP0.out n1); have b0 := HP1.out.res.cell 0; have b1 := HP1.out.res.cell 1; have b2 := HP1.out.res.cell 2; have g0 := HP1.out.res.frozen 0; have g1 := HP1.out.res.frozen 1; have g2 := HP1.out.res.frozen 2)
  (try simp only [Exit.inBlock, Exit.then])
  rw [H0.out]
  exact parse_out (cs := #[.int .i64 0, .int .i64 0, .string ⟨#[]⟩]) (g := w.heap.size) rfl rfl rfl (put3 HP1.out.res _ _ _) ⟨rfl, bel3 HP1.out.bel (Nat.le_refl _) _ _ _⟩
 | true =>
  have HR2 := Zh (show r = findF h v from HR.out); clear HR
  go_enter Tryz.func86, Tryz.ntmps86
  go_wp2_with (go_at_call 97; (with_reducible refine (HC.out).mono ?_); rintro e w1 ⟨rfl, n1, hw⟩; subst hw; have HP1 := Zh (HP0.out n1))
  go_loopw [7] (fun i wr => ∃ k : Nat, 1 ≤ k ∧ k ≤ 7 ∧ i = .int .i64 (k : Int) ∧ noBefore h v (k : Int) ∧ Pw w wr) (fun i _ => 7 - (intOf i).toNat)
  case atStart => exact ⟨1, by decide, by decide, rfl, fun a b h1 h2 _ _ => by omega, HP1.out⟩
  case round =>
   obtain ⟨k, hk1, hk7, rfl, hN, hP⟩ := hrel; have HN := Zh hN; have HP := Zh hP; clear hN hP
   by_cases hk : k ≤ 6
   ·
    have hkI : (k : Int) ≤ 6 := by omega
    go_wp2
    (try simp only [show decide ((k : Int) ≤ 6) = true from decide_eq_true hkI])
    go_loopw [8] (fun i wr => ∃ l : Nat, l ≤ 4 ∧ i = .int .i64 (l : Int) ∧ noIn h v (k : Int) (l : Int) ∧ Pw w wr) (fun i _ => 4 - (intOf i).toNat)
    case atStart => exact ⟨0, by decide, rfl, fun b h1 h2 => by omega, HP.out⟩
    case round =>
     obtain ⟨l, hl4, rfl, hI, hP⟩ := hrel; have HI := Zh hI; have HQ := Zh hP; clear hI hP
     by_cases hl : l ≤ 3
     ·
      have hf0 : fits h v (k : Int) (l : Int) = ((h.toList == (headW (k : Int) (l : Int)).toList) && mayF (k : Int) (l : Int) v) := rfl; have HONE := Zh (fun (e : fits h v (k : Int) (l : Int) = true) => find_one (h := h) (v := v) (k := (k : Int)) (l := (l : Int)) (by omega) (by omega) (by omega) (by omega) e); have HNX := Zh (fun (e : fits h v (k : Int) (l : Int) = false) => HI.out.next e); have HH := Zh (fun w => head_any (k : Int) (l : Int) w); have HMA := Zh (fun wr (hb : Below w.heap.size w wr) => fmay_any (k : Int) (l : Int) v HV.out wr (tabs_on HT.out hb (tabs_size HT.out)) (HMx.out.keep hb HMx.out.lt) (Day.tab_on HD.out hb)); obtain ⟨A, hA⟩ : ∃ A, headW (k : Int) (l : Int) = A := ⟨_, rfl⟩; obtain ⟨M, hMay⟩ : ∃ M, mayF (k : Int) (l : Int) v = M := ⟨_, rfl⟩; rw [hA] at HH hf0; rw [hMay] at HMA hf0; clear hA hMay
      cases hq : (h.toList == A.toList) with
      | false =>
       rw [hq] at hf0; have HF := Zh (show fits h v (k : Int) (l : Int) = false from hf0); have HZ := Zh (HQ.out.alloc (.cells #[.int .i64 (k : Int), .int .i64 (l : Int), .string v] 92)); clear hf0
       go_wp2_with (go_at_call 98; (with_reducible refine (HH.out _).mono ?_); rintro e w2 ⟨rfl, hw⟩; replace hw := hw.symm; subst hw)
       go_roundw
       case rel => exact ⟨l + 1, by omega, by go_num, by have := HNX.out HF.out; simpa using this, HZ.out⟩
       case measure => simp [intOf]; omega
      | true =>
       rw [hq] at hf0
       cases M with
       | false =>
        have HF := Zh (show fits h v (k : Int) (l : Int) = false from hf0); clear hf0
        go_wp2_with (first
         | (go_at_call 98; (with_reducible refine (HH.out _).mono ?_); rintro e w2 ⟨rfl, hw⟩; replace hw := hw.symm; subst hw)
         | (go_at_call 99; (with_reducible refine (HMA.out _ (HQ.out.alloc _).bel).mono ?_); rintro e w3 ⟨rfl, hb⟩; have HZ := Zh ((HQ.out.alloc _).step hb); clear hb))
        go_roundw
        case rel => exact ⟨l + 1, by omega, by go_num, by have := HNX.out HF.out; simpa using this, HZ.out⟩
        case measure => simp [intOf]; omega
       | true =>
        have HF := Zh (show r = ⟨(k : Int), (l : Int), v, 0⟩ by rw [HR2.out]; exact HONE.out hf0); clear hf0
        go_wp2_with (first
         | (go_at_call 98; (with_reducible refine (HH.out _).mono ?_); rintro e w2 ⟨rfl, hw⟩; replace hw := hw.symm; subst hw)
         | (go_at_call 99; (with_reducible refine (HMA.out _ (HQ.out.alloc _).bel).mono ?_); rintro e w3 ⟨rfl, hb⟩; have HZ := Zh ((HQ.out.alloc _).step hb); have HY := Zh ((Blk.new wr _ _).below hb (by simp)); have a0 := HY.out.cell 0; have a1 := HY.out.cell 1; have a2 := HY.out.cell 2; have b0 := HZ.out.res.cell 0; have b1 := HZ.out.res.cell 1; have b2 := HZ.out.res.cell 2; have g0 := HZ.out.res.frozen 0; have g1 := HZ.out.res.frozen 1; have g2 := HZ.out.res.frozen 2; clear hb))
        (try simp only [Exit.inBlock, Exit.then])
        rw [HF.out]
        exact parse_out (cs := #[.int .i64 (k : Int), .int .i64 (l : Int), .string v]) (g := w.heap.size) rfl rfl rfl (put3 HZ.out.res _ _ _) ⟨rfl, bel3 HZ.out.bel (Nat.le_refl _) _ _ _⟩
     ·
      obtain rfl : l = 4 := by omega
      have HB := Zh (HN.out.next HI.out)
      go_wp2
      go_roundw
      case rel => exact ⟨k + 1, by omega, by omega, by go_num, by have := HB.out; simpa using this, HQ.out⟩
      case measure => simp [intOf]; omega
   ·
    obtain rfl : k = 7 := by omega
    have H0 := Zh (show r = noF by rw [HR2.out]; exact find_none fun a b h1 h2 h3 h4 => HN.out a b h1 (by omega) h3 h4); have b0 := HP.out.res.cell 0; have b1 := HP.out.res.cell 1; have b2 := HP.out.res.cell 2; have g0 := HP.out.res.frozen 0; have g1 := HP.out.res.frozen 1; have g2 := HP.out.res.frozen 2
    go_wp2
    (try simp only [Exit.inBlock, Exit.then])
    rw [H0.out]
    exact parse_out (cs := #[.int .i64 0, .int .i64 0, .string ⟨#[]⟩]) (g := w.heap.size) rfl rfl rfl (put3 HP.out.res _ _ _) ⟨rfl, bel3 HP.out.bel (Nat.le_refl _) _ _ _⟩
attribute [local go_sem ↓] Go.wp_at_zero Go.wp_at_succ
structure Env (w : World) : Prop where
 t : Tabs w
 m : Mx w
 d : Day.Tab w.heap.size w
theorem Env.on {w v : World} (h : Env w) (hb : Below w.heap.size w v) : Env v := ⟨tabs_on h.t hb (tabs_size h.t), h.m.keep hb h.m.lt, Day.tab_on h.d hb⟩
end Go.Proofs.YtphijnkiiokieaaGreatDoor
namespace Go.Proofs.YtphijnkiiokieaaGreatDoor
open Go.RowKit
theorem bl_irr : ∀ l : List UInt8, Op.bytesLess l l = false
 | [] => rfl
 | a :: x => by simp [Op.bytesLess, bl_irr x]
theorem bl_asym : ∀ l m : List UInt8, Op.bytesLess l m = true → Op.bytesLess m l = false
 | _, [], h => by cases h' : ‹List UInt8› <;> simp_all [Op.bytesLess]
 | [], _ :: _, _ => by simp [Op.bytesLess]
 | a :: x, b :: y, h => by
  simp only [Op.bytesLess, Bool.or_eq_true, decide_eq_true_eq, Bool.and_eq_true, beq_iff_eq] at h; simp only [Op.bytesLess, Bool.or_eq_false_iff, decide_eq_false_iff_not, Bool.and_eq_false_imp, beq_iff_eq]
  rcases h with h | ⟨rfl, h⟩
  ·
   exact ⟨UInt8.lt_asymm h, fun e => by subst e; exact absurd h (UInt8.lt_irrefl _)⟩
  ·
   exact ⟨UInt8.lt_irrefl _, fun _ => bl_asym x y h⟩
theorem bl_total : ∀ l m : List UInt8, l ≠ m → Op.bytesLess l m = true ∨ Op.bytesLess m l = true
 | [], [], h => absurd rfl h
 | [], _ :: _, _ => by simp [Op.bytesLess]
 | _ :: _, [], _ => by simp [Op.bytesLess]
 | a :: x, b :: y, h => by
  simp only [Op.bytesLess, Bool.or_eq_true, decide_eq_true_eq, Bool.and_eq_true, beq_iff_eq]
  by_cases e : a = b
  ·
   subst e
   rcases bl_total x y (fun e => h (by rw [e])) with h1 | h1
   ·
    exact .inl (.inr ⟨rfl, h1⟩)
   ·
    exact .inr (.inr ⟨rfl, h1⟩)
  ·
   rcases UInt8.lt_or_lt_of_ne e with h1 | h1
   ·
    exact .inl (.inl h1)
   ·
    exact .inr (.inl h1)
theorem bl_trans : ∀ l m n : List UInt8, Op.bytesLess l m = true → Op.bytesLess m n = true → Op.bytesLess l n = true
 | _, _, [], _, h => by simp [Op.bytesLess] at h
 | _, [], _ :: _, h, _ => by simp [Op.bytesLess] at h
 | [], _ :: _, _ :: _, _, _ => by simp [Op.bytesLess]
 | a :: x, b :: y, c :: z, h1, h2 => by
  simp only [Op.bytesLess, Bool.or_eq_true, decide_eq_true_eq, Bool.and_eq_true, beq_iff_eq] at h1 h2 ⊢
  rcases h1 with h1 | ⟨rfl, h1⟩
  ·
   rcases h2 with h2 | ⟨rfl, h2⟩
   ·
    exact .inl (UInt8.lt_trans h1 h2)
   ·
    exact .inl h1
  ·
   rcases h2 with h2 | ⟨rfl, h2⟩
   ·
    exact .inl h2
   ·
    exact .inr ⟨rfl, bl_trans x y z h1 h2⟩
end Go.Proofs.YtphijnkiiokieaaGreatDoor
namespace Go.Proofs.YtphijnkiiokieaaGreatDoor
open Go.RowKit
open Go.Lib hiding intOf
theorem lessF_irr (k l : Int) (v : ByteArray) : lessF k l v k l v = false := by
 unfold lessF; rw [if_pos rfl, if_pos rfl]; exact bl_irr _
theorem lessF_asym {k l : Int} {v : ByteArray} {k2 l2 : Int} {v2 : ByteArray} (h : lessF k l v k2 l2 v2 = true) : lessF k2 l2 v2 k l v = false := by
 unfold lessF at h ⊢
 by_cases h1 : k = k2
 ·
  rw [if_pos h1] at h; rw [if_pos h1.symm]
  by_cases h2 : l = l2
  ·
   rw [if_pos h2] at h; rw [if_pos h2.symm]; exact bl_asym _ _ h
  ·
   rw [if_neg h2] at h; rw [if_neg (fun e => h2 e.symm)]
   have := of_decide_eq_true h
   exact decide_eq_false (by omega)
 ·
  rw [if_neg h1] at h; rw [if_neg (fun e => h1 e.symm)]
  have := of_decide_eq_true h
  exact decide_eq_false (by omega)
theorem lessF_total {k l : Int} {v : ByteArray} {k2 l2 : Int} {v2 : ByteArray} (h : ¬ (k = k2 ∧ l = l2 ∧ v = v2)) : lessF k l v k2 l2 v2 = true ∨ lessF k2 l2 v2 k l v = true := by
 unfold lessF
 by_cases h1 : k = k2
 ·
  rw [if_pos h1, if_pos h1.symm]
  by_cases h2 : l = l2
  ·
   rw [if_pos h2, if_pos h2.symm]
   exact bl_total _ _ fun e => h ⟨h1, h2, bs_ext (by simpa only [ByteArray.toList_eq] using e)⟩
  ·
   rw [if_neg h2, if_neg (fun e => h2 e.symm)]
   by_cases h3 : l < l2
   ·
    exact .inl (decide_eq_true h3)
   ·
    exact .inr (decide_eq_true (by omega))
 ·
  rw [if_neg h1, if_neg (fun e => h1 e.symm)]
  by_cases h3 : k < k2
  ·
   exact .inl (decide_eq_true h3)
  ·
   exact .inr (decide_eq_true (by omega))
theorem lessF_trans {k l : Int} {v : ByteArray} {k2 l2 : Int} {v2 : ByteArray} {k3 l3 : Int} {v3 : ByteArray} (h : lessF k l v k2 l2 v2 = true) (g : lessF k2 l2 v2 k3 l3 v3 = true) : lessF k l v k3 l3 v3 = true := by
 unfold lessF at h g ⊢
 by_cases h1 : k = k2
 ·
  subst h1; rw [if_pos rfl] at h
  by_cases h3 : k = k3
  ·
   subst h3; rw [if_pos rfl] at g ⊢
   by_cases h2 : l = l2
   ·
    subst h2; rw [if_pos rfl] at h
    by_cases h4 : l = l3
    ·
     subst h4; rw [if_pos rfl] at g ⊢
     exact bl_trans _ _ _ h g
    ·
     rw [if_neg h4] at g ⊢; exact g
   ·
    rw [if_neg h2] at h; have := of_decide_eq_true h
    by_cases h4 : l2 = l3
    ·
     rw [if_neg (by omega)]; exact decide_eq_true (by omega)
    ·
     rw [if_neg h4] at g; have := of_decide_eq_true g
     rw [if_neg (by omega)]; exact decide_eq_true (by omega)
  ·
   rw [if_neg h3] at g ⊢; exact g
 ·
  rw [if_neg h1] at h; have := of_decide_eq_true h
  by_cases h3 : k2 = k3
  ·
   rw [if_neg (by omega)]; exact decide_eq_true (by omega)
  ·
   rw [if_neg h3] at g; have := of_decide_eq_true g
   rw [if_neg (by omega)]; exact decide_eq_true (by omega)
end Go.Proofs.YtphijnkiiokieaaGreatDoor
