/- Dates: what a text shows. -/
import Derived.Test.YthknkglhppngoaaDoorYp
namespace Go.Proofs.YthknkglhppngoaaDoor.Day
open Go.RowKit
set_option linter.unusedVariables false
set_option maxRecDepth 20000
attribute [local go_sem ↓] Go.wp_at_zero Go.wp_at_succ
/-- What number, month and day are read out of what stands behind the year. -/
def rest3 (s rest : ByteArray) (y : Int) : Option (Int × Int × Int) :=
  if rest.size = 5 ∧ mayB y (numD (rest.data.toList.take 2)) (numD (rest.data.toList.drop 3)) = true ∧ showS y (numD (rest.data.toList.take 2)) (numD (rest.data.toList.drop 3)) = s then some (y, numD (rest.data.toList.take 2), numD (rest.data.toList.drop 3)) else none
def prs (s : ByteArray) : Option (Int × Int × Int) :=
  if Lib.hasPrefix s.data.toList [45, 45] = true then rest3 s ⟨(Lib.trimPrefix s.data.toList [45, 45]).toArray⟩ 0
  else if s.size < 5 then none else rest3 s (s.extract 5 s.size) (numD (s.data.toList.take 4))
def dateV : Option (Int × Int × Int) → Value
  | some (y, m, d) => .agg #[.int .i64 y, .int .i64 m, .int .i64 d]
  | none => .agg #[.int .i64 0, .int .i64 0, .int .i64 0]
def errV : Option (Int × Int × Int) → Value
  | some _ => .int .i64 0
  | none => .int .i64 1
theorem ext_take (a : ByteArray) (k : Nat) : (a.extract 0 k).data.toList = a.data.toList.take k := by simp [ByteArray.data_extract]
theorem ext_drop (a : ByteArray) (k : Nat) : (a.extract k a.size).data.toList = a.data.toList.drop k := by
  simp [ByteArray.data_extract]
  rw [List.take_of_length_le (by simp)]
theorem results_cell1 {fn : Func} {p u : Tmp} {ty : TypeId} (h : fn.results = #[.cell p ty, .tmp u]) (tmps : Array Value) (P : Program) (w : World) (g : Nat) (t : TypeId) (cs : Array Value) (fr : Nat × Nat) (fs : Array Field)
    (hp : tmps.getD p undef = .pointer (some ⟨g, 0, none⟩)) (hg : w.heap[g]? = some (.cells cs t fr))
    (hu : P.underlying ty = some (.struct fs)) (hi : (P.info? ty).map (·.size) = some cs.size) :
    (results fn tmps).run P w = .ok (.tuple #[.agg cs, tmps.getD u undef]) w := by
  have hp' : tmps[p]?.getD undef = .pointer (some ⟨g, 0, none⟩) := by simpa using hp
  simp [results, h, hp', asAddr, run_loadVar_row w g t ty cs fr _ hg hu rfl hi]
theorem parse_out {cs : Array Value} (hc : cs.size = 3) {R : Ending → World → Prop} {a : Act} {w : World} {g : Nat} (h2 : a.tmps.getD 2 undef = .pointer (some ⟨g, 0, none⟩)) (hd : a.defers = []) (hg : Blk w g 43 cs)
    (hR : R (.returned (.tuple #[.agg cs, a.tmps.getD 3 undef])) w) : bodyPost Tryd.prog Tryd.f21 R .ret a w :=
  bodyPost_ret (results_cell1 (fn := Tryd.f21) rfl a.tmps Tryd.prog w g 43 cs (0, 0) _ h2 hg Tryd.underlying43 (by rw [hc]; rfl)) hd hR
theorem Blk3.put {w : World} {g : Nat} {a b c : Value} (h : Blk w g 43 #[a, b, c]) (x y z : Value) : Blk (((w.setCell ⟨g, 0, none⟩ x).setCell ⟨g, 1, none⟩ y).setCell ⟨g, 2, none⟩ z) g 43 #[x, y, z] := ((h.set_ 0 x).set_ 1 y).set_ 2 z
theorem Blk3.bel {w0 w : World} {B g : Nat} (h : Below B w0 w) (hg : B ≤ g) (x y z : Value) : Below B w0 (((w.setCell ⟨g, 0, none⟩ x).setCell ⟨g, 1, none⟩ y).setCell ⟨g, 2, none⟩ z) := ((h.setCell (p := ⟨g, 0, none⟩) hg x).setCell (p := ⟨g, 1, none⟩) hg y).setCell (p := ⟨g, 2, none⟩) hg z
theorem ne_str {a b : ByteArray} (h : a ≠ b) : (a.toList == b.toList) = false := by
  rw [ByteArray.toList_eq, ByteArray.toList_eq, beq_eq_false_iff_ne]
  exact fun e => h (bs_ext e)
set_option maxHeartbeats 2000000 in
theorem parse_cut (s : ByteArray) (hs : s.size ≤ 64) (w : World) (ht : Tab w.heap.size w) (hp : Lib.hasPrefix s.data.toList [45, 45] = true) : Calls Tryd.prog 21 #[.string s] w fun e w' => e = .returned (.tuple #[dateV (prs s), errV (prs s)]) ∧ Below w.heap.size w w' := by
  obtain ⟨r, hr⟩ : ∃ r : ByteArray, (⟨(Lib.trimPrefix s.data.toList [45, 45]).toArray⟩ : ByteArray) = r := ⟨_, rfl⟩
  have HPR := Lib.hid (show prs s = rest3 s r 0 by unfold prs; rw [if_pos hp, hr])
  have HCP := Lib.hid (fun W => (show Calls Tryd.prog 31 #[.string s, .string ⟨#[45, 45]⟩] W fun e w' => e = .returned (.tuple #[.string r, .bool true]) ∧ w' = W by
    have := Tryd.strings_CutPrefix s ⟨#[45, 45]⟩ W
    rw [← hr, ← hp]
    exact this))
  rw [HPR.out]
  clear hr hp
  by_cases h5 : r.size = 5
  · obtain ⟨m, hm⟩ : ∃ m, numD (r.data.toList.take 2) = m := ⟨_, rfl⟩
    obtain ⟨d, hd⟩ : ∃ d, numD (r.data.toList.drop 3) = d := ⟨_, rfl⟩
    have HN1 := Lib.hid (fun W => (show Calls Tryd.prog 32 #[.string (r.extract 0 2)] W fun e w' => e = .returned (.int .i64 m) ∧ w' = W by
      have := number_any (r.extract 0 2) (by rw [ByteArray.size_extract]; omega) W
      rwa [ext_take, hm] at this))
    have HN2 := Lib.hid (fun W => (show Calls Tryd.prog 32 #[.string (r.extract 3 5)] W fun e w' => e = .returned (.int .i64 d) ∧ w' = W by
      have := number_any (r.extract 3 r.size) (by rw [ByteArray.size_extract]; omega) W
      rwa [ext_drop, hd, h5] at this))
    go_enter Tryd.func21, Tryd.ntmps21
    go_wp2_with (first
      | (go_at_call 31; refine (HCP.out _).mono ?_; rintro _ w2 ⟨rfl, hw2⟩; replace hw2 := hw2; subst hw2)
      | fail)
    go_region_with (first
      | (go_at_call 32; (with_reducible refine (HN1.out _).mono ?_); rintro _ w3 ⟨rfl, hw3⟩; subst hw3)
      | (go_at_call 32; (with_reducible refine (HN2.out _).mono ?_); rintro _ w3 ⟨rfl, hw3⟩; subst hw3))
    have HX : Hid (Bx2 w ((w.alloc (.cells #[.int .i64 0, .int .i64 0, .int .i64 0] 43)).alloc (.cells #[.int .i64 0, .int .i64 m, .int .i64 d] 43)).drew w.heap.size (w.heap.size + 1) 0 0 0 0 m d) :=
      Lib.hid ⟨((Blk.new w 43 _).alloc _).drew, by have := (Blk.new (w.alloc (.cells #[.int .i64 0, .int .i64 0, .int .i64 0] 43)) 43 #[.int .i64 0, .int .i64 m, .int .i64 d]).drew; simpa using this, (((Below.refl _ _).alloc (Nat.le_refl _) _).alloc (by simp) _).drew⟩
    have HT := Lib.hid (tab_on ht HX.out.bel)
    by_cases hok : mayB 0 m d = true ∧ showS 0 m d = s
    · have HR3 := Lib.hid (show rest3 s r 0 = some (0, m, d) by unfold rest3; rw [hm, hd, if_pos ⟨h5, hok⟩])
      have HM := Lib.hid hok.1
      have HS := Lib.hid hok.2
      clear hok hm hd ht
      go_wp2_with (first
        | (go_at_call 33; refine (may_any _ _ _ _).mono ?_; rintro _ w4 ⟨rfl, hb⟩; rw [HM.out]; have HX4 := Lib.hid (HX.out.step hb); have HT4 := Lib.hid (tab_on HT.out hb); have a0 := HX4.out.two.cell 0; have a1 := HX4.out.two.cell 1; have a2 := HX4.out.two.cell 2; clear hb)
        | (go_at_call 34; refine (show_any _ _ _ _ HT4.out).mono ?_; rintro _ w5 ⟨rfl, hb⟩; rw [HS.out]; have HX5 := Lib.hid (HX4.out.step hb); have b0 := HX5.out.two.cell 0; have b1 := HX5.out.two.cell 1; have b2 := HX5.out.two.cell 2; have c0 := HX5.out.one.cell 0; have c1 := HX5.out.one.cell 1; have c2 := HX5.out.one.cell 2; have f0 := HX5.out.one.frozen 0; have f1 := HX5.out.one.frozen 1; have f2 := HX5.out.one.frozen 2; clear hb a0 a1 a2)
        | fail)
      (try simp only [Exit.inBlock, Exit.then])
      rw [HR3.out]
      refine parse_out (cs := #[.int .i64 0, .int .i64 m, .int .i64 d]) (g := w.heap.size) rfl rfl rfl ?_ ⟨rfl, ?_⟩
      · exact Blk3.put HX5.out.one _ _ _
      · exact Blk3.bel HX5.out.bel (Nat.le_refl _) _ _ _
    · have HR3 := Lib.hid (show rest3 s r 0 = none by unfold rest3; rw [hm, hd, if_neg (fun h => hok h.2)])
      clear hm hd ht
      cases hmm : mayB 0 m d
      · have HM := Lib.hid hmm
        clear hmm hok
        go_wp2_with (first
          | (go_at_call 33; refine (may_any _ _ _ _).mono ?_; rintro _ w4 ⟨rfl, hb⟩; rw [HM.out]; have HX4 := Lib.hid (HX.out.step hb); have c0 := HX4.out.one.cell 0; have c1 := HX4.out.one.cell 1; have c2 := HX4.out.one.cell 2; have f0 := HX4.out.one.frozen 0; have f1 := HX4.out.one.frozen 1; have f2 := HX4.out.one.frozen 2; clear hb)
          | fail)
        (try simp only [Exit.inBlock, Exit.then])
        rw [HR3.out]
        refine parse_out (cs := #[.int .i64 0, .int .i64 0, .int .i64 0]) (g := w.heap.size) rfl rfl rfl ?_ ⟨rfl, ?_⟩
        · exact Blk3.put HX4.out.one _ _ _
        · exact Blk3.bel HX4.out.bel (Nat.le_refl _) _ _ _
      · have hne := ne_str (fun e => hok ⟨hmm, e⟩)
        have HM := Lib.hid hmm
        clear hmm hok
        obtain ⟨T, hT⟩ : ∃ T, showS 0 m d = T := ⟨_, rfl⟩
        rw [hT] at hne
        have HS := Lib.hid hT
        clear hT
        go_wp2_with (first
          | (go_at_call 33; refine (may_any _ _ _ _).mono ?_; rintro _ w4 ⟨rfl, hb⟩; rw [HM.out]; have HX4 := Lib.hid (HX.out.step hb); have HT4 := Lib.hid (tab_on HT.out hb); have a0 := HX4.out.two.cell 0; have a1 := HX4.out.two.cell 1; have a2 := HX4.out.two.cell 2; clear hb)
          | (go_at_call 34; refine (show_any _ _ _ _ HT4.out).mono ?_; rintro _ w5 ⟨rfl, hb⟩; rw [HS.out]; have HX5 := Lib.hid (HX4.out.step hb); have c0 := HX5.out.one.cell 0; have c1 := HX5.out.one.cell 1; have c2 := HX5.out.one.cell 2; have f0 := HX5.out.one.frozen 0; have f1 := HX5.out.one.frozen 1; have f2 := HX5.out.one.frozen 2; clear hb a0 a1 a2)
          | fail)
        (try simp only [Exit.inBlock, Exit.then])
        rw [HR3.out]
        refine parse_out (cs := #[.int .i64 0, .int .i64 0, .int .i64 0]) (g := w.heap.size) rfl rfl rfl ?_ ⟨rfl, ?_⟩
        · exact Blk3.put HX5.out.one _ _ _
        · exact Blk3.bel HX5.out.bel (Nat.le_refl _) _ _ _
  · go_enter Tryd.func21, Tryd.ntmps21
    go_wp2_with (first
      | (go_at_call 31; refine (HCP.out _).mono ?_; rintro _ w2 ⟨rfl, hw2⟩; replace hw2 := hw2; subst hw2)
      | fail)
    have HR3 := Lib.hid (show rest3 s r 0 = none by unfold rest3; rw [if_neg (fun h => h5 h.1)])
    rw [HR3.out]
    exact bodyPost_ret (v := .tuple #[.agg #[.int .i64 0, .int .i64 0, .int .i64 0], .int .i64 1]) (by simp [results, Tryd.results21, go_sem]) rfl ⟨rfl, ((Below.refl _ _).alloc (Nat.le_refl _) _).alloc (by simp) _⟩
set_option maxHeartbeats 2000000 in
theorem parse_num (s : ByteArray) (hs : s.size ≤ 64) (w : World) (ht : Tab w.heap.size w) (hp : Lib.hasPrefix s.data.toList [45, 45] = false) : Calls Tryd.prog 21 #[.string s] w fun e w' => e = .returned (.tuple #[dateV (prs s), errV (prs s)]) ∧ Below w.heap.size w w' := by
  have HCP := Lib.hid (fun W => (show Calls Tryd.prog 31 #[.string s, .string ⟨#[45, 45]⟩] W fun e w' => e = .returned (.tuple #[.string ⟨(Lib.trimPrefix s.data.toList [45, 45]).toArray⟩, .bool false]) ∧ w' = W by
    have := Tryd.strings_CutPrefix s ⟨#[45, 45]⟩ W
    rw [← hp]
    exact this))
  by_cases hs5 : s.size < 5
  · have HPR := Lib.hid (show prs s = none by unfold prs; rw [if_neg (by rw [hp]; simp), if_pos hs5])
    rw [HPR.out]
    have hs5i : (s.size : Int) < 5 := by omega
    go_enter Tryd.func21, Tryd.ntmps21
    go_wp2_with (first
      | (go_at_call 31; refine (HCP.out _).mono ?_; rintro _ w2 ⟨rfl, hw2⟩; replace hw2 := hw2; subst hw2)
      | fail)
    exact bodyPost_ret (v := .tuple #[.agg #[.int .i64 0, .int .i64 0, .int .i64 0], .int .i64 1]) (by simp [results, Tryd.results21, go_sem]) rfl ⟨rfl, ((Below.refl _ _).alloc (Nat.le_refl _) _).alloc (by simp) _⟩
  obtain ⟨r, hr⟩ : ∃ r : ByteArray, s.extract 5 s.size = r := ⟨_, rfl⟩
  obtain ⟨y, hy⟩ : ∃ y, numD (s.data.toList.take 4) = y := ⟨_, rfl⟩
  have HPR := Lib.hid (show prs s = rest3 s r y by unfold prs; rw [if_neg (by rw [hp]; simp), if_neg hs5, hr, hy])
  have HNY := Lib.hid (fun W => (show Calls Tryd.prog 32 #[.string (s.extract 0 4)] W fun e w' => e = .returned (.int .i64 y) ∧ w' = W by
    have := number_any (s.extract 0 4) (by rw [ByteArray.size_extract]; omega) W
    rwa [ext_take, hy] at this))
  have hs5i : ¬ (s.size : Int) < 5 := by omega
  have hs6i : (4 : Int) ≤ (s.size : Int) := by omega
  have hs7i : (5 : Int) ≤ (s.size : Int) := by omega
  rw [HPR.out]
  clear hp hy
  by_cases h5 : r.size = 5
  · obtain ⟨m, hm⟩ : ∃ m, numD (r.data.toList.take 2) = m := ⟨_, rfl⟩
    obtain ⟨d, hd⟩ : ∃ d, numD (r.data.toList.drop 3) = d := ⟨_, rfl⟩
    have HN1 := Lib.hid (fun W => (show Calls Tryd.prog 32 #[.string (r.extract 0 2)] W fun e w' => e = .returned (.int .i64 m) ∧ w' = W by
      have := number_any (r.extract 0 2) (by rw [ByteArray.size_extract]; omega) W
      rwa [ext_take, hm] at this))
    have HN2 := Lib.hid (fun W => (show Calls Tryd.prog 32 #[.string (r.extract 3 5)] W fun e w' => e = .returned (.int .i64 d) ∧ w' = W by
      have := number_any (r.extract 3 r.size) (by rw [ByteArray.size_extract]; omega) W
      rwa [ext_drop, hd, h5] at this))
    go_enter Tryd.func21, Tryd.ntmps21
    go_wp2_with (first
      | (go_at_call 31; refine (HCP.out _).mono ?_; rintro _ w2 ⟨rfl, hw2⟩; replace hw2 := hw2; subst hw2)
      | (go_at_call 32; refine (HNY.out _).mono ?_; rintro _ w2 ⟨rfl, hw2⟩; subst hw2)
      | fail)
    go_region_with (first
      | (go_at_call 32; (with_reducible refine (HN1.out _).mono ?_); rintro _ w3 ⟨rfl, hw3⟩; subst hw3)
      | (go_at_call 32; (with_reducible refine (HN2.out _).mono ?_); rintro _ w3 ⟨rfl, hw3⟩; subst hw3))
    have HX : Hid (Bx2 w ((w.alloc (.cells #[.int .i64 0, .int .i64 0, .int .i64 0] 43)).alloc (.cells #[.int .i64 y, .int .i64 m, .int .i64 d] 43)).drew w.heap.size (w.heap.size + 1) 0 0 0 y m d) :=
      Lib.hid ⟨((Blk.new w 43 _).alloc _).drew, by have := (Blk.new (w.alloc (.cells #[.int .i64 0, .int .i64 0, .int .i64 0] 43)) 43 #[.int .i64 y, .int .i64 m, .int .i64 d]).drew; simpa using this, (((Below.refl _ _).alloc (Nat.le_refl _) _).alloc (by simp) _).drew⟩
    have HT := Lib.hid (tab_on ht HX.out.bel)
    by_cases hok : mayB y m d = true ∧ showS y m d = s
    · have HR3 := Lib.hid (show rest3 s r y = some (y, m, d) by unfold rest3; rw [hm, hd, if_pos ⟨h5, hok⟩])
      have HM := Lib.hid hok.1
      have HS := Lib.hid hok.2
      clear hok hm hd ht
      go_wp2_with (first
        | (go_at_call 33; refine (may_any _ _ _ _).mono ?_; rintro _ w4 ⟨rfl, hb⟩; rw [HM.out]; have HX4 := Lib.hid (HX.out.step hb); have HT4 := Lib.hid (tab_on HT.out hb); have a0 := HX4.out.two.cell 0; have a1 := HX4.out.two.cell 1; have a2 := HX4.out.two.cell 2; clear hb)
        | (go_at_call 34; refine (show_any _ _ _ _ HT4.out).mono ?_; rintro _ w5 ⟨rfl, hb⟩; rw [HS.out]; have HX5 := Lib.hid (HX4.out.step hb); have b0 := HX5.out.two.cell 0; have b1 := HX5.out.two.cell 1; have b2 := HX5.out.two.cell 2; have c0 := HX5.out.one.cell 0; have c1 := HX5.out.one.cell 1; have c2 := HX5.out.one.cell 2; have f0 := HX5.out.one.frozen 0; have f1 := HX5.out.one.frozen 1; have f2 := HX5.out.one.frozen 2; clear hb a0 a1 a2)
        | fail)
      (try simp only [Exit.inBlock, Exit.then])
      rw [HR3.out]
      refine parse_out (cs := #[.int .i64 y, .int .i64 m, .int .i64 d]) (g := w.heap.size) rfl rfl rfl ?_ ⟨rfl, ?_⟩
      · exact Blk3.put HX5.out.one _ _ _
      · exact Blk3.bel HX5.out.bel (Nat.le_refl _) _ _ _
    · have HR3 := Lib.hid (show rest3 s r y = none by unfold rest3; rw [hm, hd, if_neg (fun h => hok h.2)])
      clear hm hd ht
      cases hmm : mayB y m d
      · have HM := Lib.hid hmm
        clear hmm hok
        go_wp2_with (first
          | (go_at_call 33; refine (may_any _ _ _ _).mono ?_; rintro _ w4 ⟨rfl, hb⟩; rw [HM.out]; have HX4 := Lib.hid (HX.out.step hb); have c0 := HX4.out.one.cell 0; have c1 := HX4.out.one.cell 1; have c2 := HX4.out.one.cell 2; have f0 := HX4.out.one.frozen 0; have f1 := HX4.out.one.frozen 1; have f2 := HX4.out.one.frozen 2; clear hb)
          | fail)
        (try simp only [Exit.inBlock, Exit.then])
        rw [HR3.out]
        refine parse_out (cs := #[.int .i64 0, .int .i64 0, .int .i64 0]) (g := w.heap.size) rfl rfl rfl ?_ ⟨rfl, ?_⟩
        · exact Blk3.put HX4.out.one _ _ _
        · exact Blk3.bel HX4.out.bel (Nat.le_refl _) _ _ _
      · have hne := ne_str (fun e => hok ⟨hmm, e⟩)
        have HM := Lib.hid hmm
        clear hmm hok
        obtain ⟨T, hT⟩ : ∃ T, showS y m d = T := ⟨_, rfl⟩
        rw [hT] at hne
        have HS := Lib.hid hT
        clear hT
        go_wp2_with (first
          | (go_at_call 33; refine (may_any _ _ _ _).mono ?_; rintro _ w4 ⟨rfl, hb⟩; rw [HM.out]; have HX4 := Lib.hid (HX.out.step hb); have HT4 := Lib.hid (tab_on HT.out hb); have a0 := HX4.out.two.cell 0; have a1 := HX4.out.two.cell 1; have a2 := HX4.out.two.cell 2; clear hb)
          | (go_at_call 34; refine (show_any _ _ _ _ HT4.out).mono ?_; rintro _ w5 ⟨rfl, hb⟩; rw [HS.out]; have HX5 := Lib.hid (HX4.out.step hb); have c0 := HX5.out.one.cell 0; have c1 := HX5.out.one.cell 1; have c2 := HX5.out.one.cell 2; have f0 := HX5.out.one.frozen 0; have f1 := HX5.out.one.frozen 1; have f2 := HX5.out.one.frozen 2; clear hb a0 a1 a2)
          | fail)
        (try simp only [Exit.inBlock, Exit.then])
        rw [HR3.out]
        refine parse_out (cs := #[.int .i64 0, .int .i64 0, .int .i64 0]) (g := w.heap.size) rfl rfl rfl ?_ ⟨rfl, ?_⟩
        · exact Blk3.put HX5.out.one _ _ _
        · exact Blk3.bel HX5.out.bel (Nat.le_refl _) _ _ _
  · have h5i : ((r.size : Int) == 5) = false := by simp; omega
    go_enter Tryd.func21, Tryd.ntmps21
    go_wp2_with (first
      | (go_at_call 31; refine (HCP.out _).mono ?_; rintro _ w2 ⟨rfl, hw2⟩; replace hw2 := hw2; subst hw2)
      | (go_at_call 32; refine (HNY.out _).mono ?_; rintro _ w2 ⟨rfl, hw2⟩; subst hw2)
      | fail)
    have HR3 := Lib.hid (show rest3 s r y = none by unfold rest3; rw [if_neg (fun h => h5 h.1)])
    rw [HR3.out]
    exact bodyPost_ret (v := .tuple #[.agg #[.int .i64 0, .int .i64 0, .int .i64 0], .int .i64 1]) (by simp [results, Tryd.results21, go_sem]) rfl ⟨rfl, ((Below.refl _ _).alloc (Nat.le_refl _) _).alloc (by simp) _⟩
theorem parse_any (s : ByteArray) (hs : s.size ≤ 64) (w : World) (ht : Tab w.heap.size w) : Calls Tryd.prog 21 #[.string s] w fun e w' => e = .returned (.tuple #[dateV (prs s), errV (prs s)]) ∧ Below w.heap.size w w' := by
  cases hp : Lib.hasPrefix s.data.toList [45, 45]
  · exact parse_num s hs w ht hp
  · exact parse_cut s hs w ht hp
end Go.Proofs.YthknkglhppngoaaDoor.Day
