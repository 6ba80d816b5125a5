/- Lines of a contact: what a line is parsed to; canonical twice. -/
import Derived.Test.YtphijnkiiokieaaGreatDoorZak
import Derived.Test.YtphijnkiiokieaaGreatDoorZag
import Derived.Test.YtphijnkiiokieaaGreatDoorZai
import Derived.Deep.RegionWith
import Derived.Deep.QuietTactic
import Derived.BigQuiet
/- Dates: what a text shows. -/
namespace Go.Proofs.YtphijnkiiokieaaGreatDoor.Day
open Go.RowKit
set_option linter.unusedVariables false
set_option maxRecDepth 20000
attribute [local go_sem ↓] Go.wp_at_zero Go.wp_at_succ
/-- What number, month and day are read out of what stands behind the year. -/
def rest3 (s rest : ByteArray) (y : Int) : Option (Int × Int × Int) :=
  if rest.size = 5 ∧ mayB y (numD (rest.data.toList.take 2)) (numD (rest.data.toList.drop 3)) = true ∧ showS y (numD (rest.data.toList.take 2)) (numD (rest.data.toList.drop 3)) = s then some (y, numD (rest.data.toList.take 2), numD (rest.data.toList.drop 3)) else none
def prs (s : ByteArray) : Option (Int × Int × Int) :=
  if Lib.hasPrefix s.data.toList [45, 45] = true then rest3 s ⟨(Lib.trimPrefix s.data.toList [45, 45]).toArray⟩ 0
  else if s.size < 5 then none else rest3 s (s.extract 5 s.size) (numD (s.data.toList.take 4))
def dateV : Option (Int × Int × Int) → Value
  | some (y, m, d) => .agg #[.int .i64 y, .int .i64 m, .int .i64 d]
  | none => .agg #[.int .i64 0, .int .i64 0, .int .i64 0]
def errV : Option (Int × Int × Int) → Value
  | some _ => .int .i64 0
  | none => .int .i64 1
theorem ext_take (a : ByteArray) (k : Nat) : (a.extract 0 k).data.toList = a.data.toList.take k := by simp [ByteArray.data_extract]
theorem ext_drop (a : ByteArray) (k : Nat) : (a.extract k a.size).data.toList = a.data.toList.drop k := by
  simp [ByteArray.data_extract]
  rw [List.take_of_length_le (by simp)]
theorem results_cell1 {fn : Func} {p u : Tmp} {ty : TypeId} (h : fn.results = #[.cell p ty, .tmp u]) (tmps : Array Value) (P : Program) (w : World) (g : Nat) (t : TypeId) (cs : Array Value) (fr : Nat × Nat) (fs : Array Field)
    (hp : tmps.getD p undef = .pointer (some ⟨g, 0, none⟩)) (hg : w.heap[g]? = some (.cells cs t fr))
    (hu : P.underlying ty = some (.struct fs)) (hi : (P.info? ty).map (·.size) = some cs.size) :
    (results fn tmps).run P w = .ok (.tuple #[.agg cs, tmps.getD u undef]) w := by
  have hp' : tmps[p]?.getD undef = .pointer (some ⟨g, 0, none⟩) := by simpa using hp
  simp [results, h, hp', asAddr, run_loadVar_row w g t ty cs fr _ hg hu rfl hi]
theorem parse_out {cs : Array Value} (hc : cs.size = 3) {R : Ending → World → Prop} {a : Act} {w : World} {g : Nat} (h2 : a.tmps.getD 2 undef = .pointer (some ⟨g, 0, none⟩)) (hd : a.defers = []) (hg : Blk w g 130 cs)
    (hR : R (.returned (.tuple #[.agg cs, a.tmps.getD 3 undef])) w) : bodyPost Tryz.prog Tryz.f144 R .ret a w :=
  bodyPost_ret (results_cell1 (fn := Tryz.f144) rfl a.tmps Tryz.prog w g 130 cs (0, 0) _ h2 hg Tryz.underlying130 (by rw [hc]; rfl)) hd hR
theorem Blk3.put {w : World} {g : Nat} {a b c : Value} (h : Blk w g 130 #[a, b, c]) (x y z : Value) : Blk (((w.setCell ⟨g, 0, none⟩ x).setCell ⟨g, 1, none⟩ y).setCell ⟨g, 2, none⟩ z) g 130 #[x, y, z] := ((h.set_ 0 x).set_ 1 y).set_ 2 z
theorem Blk3.bel {w0 w : World} {B g : Nat} (h : Below B w0 w) (hg : B ≤ g) (x y z : Value) : Below B w0 (((w.setCell ⟨g, 0, none⟩ x).setCell ⟨g, 1, none⟩ y).setCell ⟨g, 2, none⟩ z) := ((h.setCell (p := ⟨g, 0, none⟩) hg x).setCell (p := ⟨g, 1, none⟩) hg y).setCell (p := ⟨g, 2, none⟩) hg z
theorem ne_str {a b : ByteArray} (h : a ≠ b) : (a.toList == b.toList) = false := by
  rw [ByteArray.toList_eq, ByteArray.toList_eq, beq_eq_false_iff_ne]
  exact fun e => h (bs_ext e)
set_option maxHeartbeats 2000000 in
theorem parse_cut (s : ByteArray) (hs : s.size ≤ 64) (w : World) (ht : Tab w.heap.size w) (hp : Lib.hasPrefix s.data.toList [45, 45] = true) : Calls Tryz.prog 144 #[.string s] w fun e w' => e = .returned (.tuple #[dateV (prs s), errV (prs s)]) ∧ Below w.heap.size w w' := by
  obtain ⟨r, hr⟩ : ∃ r : ByteArray, (⟨(Lib.trimPrefix s.data.toList [45, 45]).toArray⟩ : ByteArray) = r := ⟨_, rfl⟩
  have HPR := Lib.hid (show prs s = rest3 s r 0 by unfold prs; rw [if_pos hp, hr])
  have HCP := Lib.hid (fun W => (show Calls Tryz.prog 168 #[.string s, .string ⟨#[45, 45]⟩] W fun e w' => e = .returned (.tuple #[.string r, .bool true]) ∧ w' = W by
    have := Tryz.strings_CutPrefix s ⟨#[45, 45]⟩ W
    rw [← hr, ← hp]
    exact this))
  rw [HPR.out]
  clear hr hp
  by_cases h5 : r.size = 5
  · obtain ⟨m, hm⟩ : ∃ m, numD (r.data.toList.take 2) = m := ⟨_, rfl⟩
    obtain ⟨d, hd⟩ : ∃ d, numD (r.data.toList.drop 3) = d := ⟨_, rfl⟩
    have HN1 := Lib.hid (fun W => (show Calls Tryz.prog 169 #[.string (r.extract 0 2)] W fun e w' => e = .returned (.int .i64 m) ∧ w' = W by
      have := number_any (r.extract 0 2) (by rw [ByteArray.size_extract]; omega) W
      rwa [ext_take, hm] at this))
    have HN2 := Lib.hid (fun W => (show Calls Tryz.prog 169 #[.string (r.extract 3 5)] W fun e w' => e = .returned (.int .i64 d) ∧ w' = W by
      have := number_any (r.extract 3 r.size) (by rw [ByteArray.size_extract]; omega) W
      rwa [ext_drop, hd, h5] at this))
    go_enter Tryz.func144, Tryz.ntmps144
    go_wp2_with (first
      | (go_at_call 168; refine (HCP.out _).mono ?_; rintro _ w2 ⟨rfl, hw2⟩; replace hw2 := hw2; subst hw2)
      | fail)
    go_region_with (first
      | (go_at_call 169; (with_reducible refine (HN1.out _).mono ?_); rintro _ w3 ⟨rfl, hw3⟩; subst hw3)
      | (go_at_call 169; (with_reducible refine (HN2.out _).mono ?_); rintro _ w3 ⟨rfl, hw3⟩; subst hw3))
    have HX : Hid (Bx2 w ((w.alloc (.cells #[.int .i64 0, .int .i64 0, .int .i64 0] 130)).alloc (.cells #[.int .i64 0, .int .i64 m, .int .i64 d] 130)).drew w.heap.size (w.heap.size + 1) 0 0 0 0 m d) :=
      Lib.hid ⟨((Blk.new w 130 _).alloc _).drew, by have := (Blk.new (w.alloc (.cells #[.int .i64 0, .int .i64 0, .int .i64 0] 130)) 130 #[.int .i64 0, .int .i64 m, .int .i64 d]).drew; simpa using this, (((Below.refl _ _).alloc (Nat.le_refl _) _).alloc (by simp) _).drew⟩
    have HT := Lib.hid (tab_on ht HX.out.bel)
    by_cases hok : mayB 0 m d = true ∧ showS 0 m d = s
    · have HR3 := Lib.hid (show rest3 s r 0 = some (0, m, d) by unfold rest3; rw [hm, hd, if_pos ⟨h5, hok⟩])
      have HM := Lib.hid hok.1
      have HS := Lib.hid hok.2
      clear hok hm hd ht
      go_wp2_with (first
        | (go_at_call 170; refine (may_any _ _ _ _).mono ?_; rintro _ w4 ⟨rfl, hb⟩; rw [HM.out]; have HX4 := Lib.hid (HX.out.step hb); have HT4 := Lib.hid (tab_on HT.out hb); have a0 := HX4.out.two.cell 0; have a1 := HX4.out.two.cell 1; have a2 := HX4.out.two.cell 2; clear hb)
        | (go_at_call 171; refine (show_any _ _ _ _ HT4.out).mono ?_; rintro _ w5 ⟨rfl, hb⟩; rw [HS.out]; have HX5 := Lib.hid (HX4.out.step hb); have b0 := HX5.out.two.cell 0; have b1 := HX5.out.two.cell 1; have b2 := HX5.out.two.cell 2; have c0 := HX5.out.one.cell 0; have c1 := HX5.out.one.cell 1; have c2 := HX5.out.one.cell 2; have f0 := HX5.out.one.frozen 0; have f1 := HX5.out.one.frozen 1; have f2 := HX5.out.one.frozen 2; clear hb a0 a1 a2)
        | fail)
      (try simp only [Exit.inBlock, Exit.then])
      rw [HR3.out]
      refine parse_out (cs := #[.int .i64 0, .int .i64 m, .int .i64 d]) (g := w.heap.size) rfl rfl rfl ?_ ⟨rfl, ?_⟩
      · exact Blk3.put HX5.out.one _ _ _
      · exact Blk3.bel HX5.out.bel (Nat.le_refl _) _ _ _
    · have HR3 := Lib.hid (show rest3 s r 0 = none by unfold rest3; rw [hm, hd, if_neg (fun h => hok h.2)])
      clear hm hd ht
      cases hmm : mayB 0 m d
      · have HM := Lib.hid hmm
        clear hmm hok
        go_wp2_with (first
          | (go_at_call 170; refine (may_any _ _ _ _).mono ?_; rintro _ w4 ⟨rfl, hb⟩; rw [HM.out]; have HX4 := Lib.hid (HX.out.step hb); have c0 := HX4.out.one.cell 0; have c1 := HX4.out.one.cell 1; have c2 := HX4.out.one.cell 2; have f0 := HX4.out.one.frozen 0; have f1 := HX4.out.one.frozen 1; have f2 := HX4.out.one.frozen 2; clear hb)
          | fail)
        (try simp only [Exit.inBlock, Exit.then])
        rw [HR3.out]
        refine parse_out (cs := #[.int .i64 0, .int .i64 0, .int .i64 0]) (g := w.heap.size) rfl rfl rfl ?_ ⟨rfl, ?_⟩
        · exact Blk3.put HX4.out.one _ _ _
        · exact Blk3.bel HX4.out.bel (Nat.le_refl _) _ _ _
      · have hne := ne_str (fun e => hok ⟨hmm, e⟩)
        have HM := Lib.hid hmm
        clear hmm hok
        obtain ⟨T, hT⟩ : ∃ T, showS 0 m d = T := ⟨_, rfl⟩
        rw [hT] at hne
        have HS := Lib.hid hT
        clear hT
        go_wp2_with (first
          | (go_at_call 170; refine (may_any _ _ _ _).mono ?_; rintro _ w4 ⟨rfl, hb⟩; rw [HM.out]; have HX4 := Lib.hid (HX.out.step hb); have HT4 := Lib.hid (tab_on HT.out hb); have a0 := HX4.out.two.cell 0; have a1 := HX4.out.two.cell 1; have a2 := HX4.out.two.cell 2; clear hb)
          | (go_at_call 171; refine (show_any _ _ _ _ HT4.out).mono ?_; rintro _ w5 ⟨rfl, hb⟩; rw [HS.out]; have HX5 := Lib.hid (HX4.out.step hb); have c0 := HX5.out.one.cell 0; have c1 := HX5.out.one.cell 1; have c2 := HX5.out.one.cell 2; have f0 := HX5.out.one.frozen 0; have f1 := HX5.out.one.frozen 1; have f2 := HX5.out.one.frozen 2; clear hb a0 a1 a2)
          | fail)
        (try simp only [Exit.inBlock, Exit.then])
        rw [HR3.out]
        refine parse_out (cs := #[.int .i64 0, .int .i64 0, .int .i64 0]) (g := w.heap.size) rfl rfl rfl ?_ ⟨rfl, ?_⟩
        · exact Blk3.put HX5.out.one _ _ _
        · exact Blk3.bel HX5.out.bel (Nat.le_refl _) _ _ _
  · go_enter Tryz.func144, Tryz.ntmps144
    go_wp2_with (first
      | (go_at_call 168; refine (HCP.out _).mono ?_; rintro _ w2 ⟨rfl, hw2⟩; replace hw2 := hw2; subst hw2)
      | fail)
    have HR3 := Lib.hid (show rest3 s r 0 = none by unfold rest3; rw [if_neg (fun h => h5 h.1)])
    rw [HR3.out]
    exact bodyPost_ret (v := .tuple #[.agg #[.int .i64 0, .int .i64 0, .int .i64 0], .int .i64 1]) (by simp [results, Tryz.results144, go_sem]) rfl ⟨rfl, ((Below.refl _ _).alloc (Nat.le_refl _) _).alloc (by simp) _⟩
set_option maxHeartbeats 2000000 in
theorem parse_num (s : ByteArray) (hs : s.size ≤ 64) (w : World) (ht : Tab w.heap.size w) (hp : Lib.hasPrefix s.data.toList [45, 45] = false) : Calls Tryz.prog 144 #[.string s] w fun e w' => e = .returned (.tuple #[dateV (prs s), errV (prs s)]) ∧ Below w.heap.size w w' := by
  have HCP := Lib.hid (fun W => (show Calls Tryz.prog 168 #[.string s, .string ⟨#[45, 45]⟩] W fun e w' => e = .returned (.tuple #[.string ⟨(Lib.trimPrefix s.data.toList [45, 45]).toArray⟩, .bool false]) ∧ w' = W by
    have := Tryz.strings_CutPrefix s ⟨#[45, 45]⟩ W
    rw [← hp]
    exact this))
  by_cases hs5 : s.size < 5
  · have HPR := Lib.hid (show prs s = none by unfold prs; rw [if_neg (by rw [hp]; simp), if_pos hs5])
    rw [HPR.out]
    have hs5i : (s.size : Int) < 5 := by omega
    go_enter Tryz.func144, Tryz.ntmps144
    go_wp2_with (first
      | (go_at_call 168; refine (HCP.out _).mono ?_; rintro _ w2 ⟨rfl, hw2⟩; replace hw2 := hw2; subst hw2)
      | fail)
    exact bodyPost_ret (v := .tuple #[.agg #[.int .i64 0, .int .i64 0, .int .i64 0], .int .i64 1]) (by simp [results, Tryz.results144, go_sem]) rfl ⟨rfl, ((Below.refl _ _).alloc (Nat.le_refl _) _).alloc (by simp) _⟩
  obtain ⟨r, hr⟩ : ∃ r : ByteArray, s.extract 5 s.size = r := ⟨_, rfl⟩
  obtain ⟨y, hy⟩ : ∃ y, numD (s.data.toList.take 4) = y := ⟨_, rfl⟩
  have HPR := Lib.hid (show prs s = rest3 s r y by unfold prs; rw [if_neg (by rw [hp]; simp), if_neg hs5, hr, hy])
  have HNY := Lib.hid (fun W => (show Calls Tryz.prog 169 #[.string (s.extract 0 4)] W fun e w' => e = .returned (.int .i64 y) ∧ w' = W by
    have := number_any (s.extract 0 4) (by rw [ByteArray.size_extract]; omega) W
    rwa [ext_take, hy] at this))
  have hs5i : ¬ (s.size : Int) < 5 := by omega
  have hs6i : (4 : Int) ≤ (s.size : Int) := by omega
  have hs7i : (5 : Int) ≤ (s.size : Int) := by omega
  rw [HPR.out]
  clear hp hy
  by_cases h5 : r.size = 5
  · obtain ⟨m, hm⟩ : ∃ m, numD (r.data.toList.take 2) = m := ⟨_, rfl⟩
    obtain ⟨d, hd⟩ : ∃ d, numD (r.data.toList.drop 3) = d := ⟨_, rfl⟩
    have HN1 := Lib.hid (fun W => (show Calls Tryz.prog 169 #[.string (r.extract 0 2)] W fun e w' => e = .returned (.int .i64 m) ∧ w' = W by
      have := number_any (r.extract 0 2) (by rw [ByteArray.size_extract]; omega) W
      rwa [ext_take, hm] at this))
    have HN2 := Lib.hid (fun W => (show Calls Tryz.prog 169 #[.string (r.extract 3 5)] W fun e w' => e = .returned (.int .i64 d) ∧ w' = W by
      have := number_any (r.extract 3 r.size) (by rw [ByteArray.size_extract]; omega) W
      rwa [ext_drop, hd, h5] at this))
    go_enter Tryz.func144, Tryz.ntmps144
    go_wp2_with (first
      | (go_at_call 168; refine (HCP.out _).mono ?_; rintro _ w2 ⟨rfl, hw2⟩; replace hw2 := hw2; subst hw2)
      | (go_at_call 169; refine (HNY.out _).mono ?_; rintro _ w2 ⟨rfl, hw2⟩; subst hw2)
      | fail)
    go_region_with (first
      | (go_at_call 169; (with_reducible refine (HN1.out _).mono ?_); rintro _ w3 ⟨rfl, hw3⟩; subst hw3)
      | (go_at_call 169; (with_reducible refine (HN2.out _).mono ?_); rintro _ w3 ⟨rfl, hw3⟩; subst hw3))
    have HX : Hid (Bx2 w ((w.alloc (.cells #[.int .i64 0, .int .i64 0, .int .i64 0] 130)).alloc (.cells #[.int .i64 y, .int .i64 m, .int .i64 d] 130)).drew w.heap.size (w.heap.size + 1) 0 0 0 y m d) :=
      Lib.hid ⟨((Blk.new w 130 _).alloc _).drew, by have := (Blk.new (w.alloc (.cells #[.int .i64 0, .int .i64 0, .int .i64 0] 130)) 130 #[.int .i64 y, .int .i64 m, .int .i64 d]).drew; simpa using this, (((Below.refl _ _).alloc (Nat.le_refl _) _).alloc (by simp) _).drew⟩
    have HT := Lib.hid (tab_on ht HX.out.bel)
    by_cases hok : mayB y m d = true ∧ showS y m d = s
    · have HR3 := Lib.hid (show rest3 s r y = some (y, m, d) by unfold rest3; rw [hm, hd, if_pos ⟨h5, hok⟩])
      have HM := Lib.hid hok.1
      have HS := Lib.hid hok.2
      clear hok hm hd ht
      go_wp2_with (first
        | (go_at_call 170; refine (may_any _ _ _ _).mono ?_; rintro _ w4 ⟨rfl, hb⟩; rw [HM.out]; have HX4 := Lib.hid (HX.out.step hb); have HT4 := Lib.hid (tab_on HT.out hb); have a0 := HX4.out.two.cell 0; have a1 := HX4.out.two.cell 1; have a2 := HX4.out.two.cell 2; clear hb)
        | (go_at_call 171; refine (show_any _ _ _ _ HT4.out).mono ?_; rintro _ w5 ⟨rfl, hb⟩; rw [HS.out]; have HX5 := Lib.hid (HX4.out.step hb); have b0 := HX5.out.two.cell 0; have b1 := HX5.out.two.cell 1; have b2 := HX5.out.two.cell 2; have c0 := HX5.out.one.cell 0; have c1 := HX5.out.one.cell 1; have c2 := HX5.out.one.cell 2; have f0 := HX5.out.one.frozen 0; have f1 := HX5.out.one.frozen 1; have f2 := HX5.out.one.frozen 2; clear hb a0 a1 a2)
        | fail)
      (try simp only [Exit.inBlock, Exit.then])
      rw [HR3.out]
      refine parse_out (cs := #[.int .i64 y, .int .i64 m, .int .i64 d]) (g := w.heap.size) rfl rfl rfl ?_ ⟨rfl, ?_⟩
      · exact Blk3.put HX5.out.one _ _ _
      · exact Blk3.bel HX5.out.bel (Nat.le_refl _) _ _ _
    · have HR3 := Lib.hid (show rest3 s r y = none by unfold rest3; rw [hm, hd, if_neg (fun h => hok h.2)])
      clear hm hd ht
      cases hmm : mayB y m d
      · have HM := Lib.hid hmm
        clear hmm hok
        go_wp2_with (first
          | (go_at_call 170; refine (may_any _ _ _ _).mono ?_; rintro _ w4 ⟨rfl, hb⟩; rw [HM.out]; have HX4 := Lib.hid (HX.out.step hb); have c0 := HX4.out.one.cell 0; have c1 := HX4.out.one.cell 1; have c2 := HX4.out.one.cell 2; have f0 := HX4.out.one.frozen 0; have f1 := HX4.out.one.frozen 1; have f2 := HX4.out.one.frozen 2; clear hb)
          | fail)
        (try simp only [Exit.inBlock, Exit.then])
        rw [HR3.out]
        refine parse_out (cs := #[.int .i64 0, .int .i64 0, .int .i64 0]) (g := w.heap.size) rfl rfl rfl ?_ ⟨rfl, ?_⟩
        · exact Blk3.put HX4.out.one _ _ _
        · exact Blk3.bel HX4.out.bel (Nat.le_refl _) _ _ _
      · have hne := ne_str (fun e => hok ⟨hmm, e⟩)
        have HM := Lib.hid hmm
        clear hmm hok
        obtain ⟨T, hT⟩ : ∃ T, showS y m d = T := ⟨_, rfl⟩
        rw [hT] at hne
        have HS := Lib.hid hT
        clear hT
        go_wp2_with (first
          | (go_at_call 170; refine (may_any _ _ _ _).mono ?_; rintro _ w4 ⟨rfl, hb⟩; rw [HM.out]; have HX4 := Lib.hid (HX.out.step hb); have HT4 := Lib.hid (tab_on HT.out hb); have a0 := HX4.out.two.cell 0; have a1 := HX4.out.two.cell 1; have a2 := HX4.out.two.cell 2; clear hb)
          | (go_at_call 171; refine (show_any _ _ _ _ HT4.out).mono ?_; rintro _ w5 ⟨rfl, hb⟩; rw [HS.out]; have HX5 := Lib.hid (HX4.out.step hb); have c0 := HX5.out.one.cell 0; have c1 := HX5.out.one.cell 1; have c2 := HX5.out.one.cell 2; have f0 := HX5.out.one.frozen 0; have f1 := HX5.out.one.frozen 1; have f2 := HX5.out.one.frozen 2; clear hb a0 a1 a2)
          | fail)
        (try simp only [Exit.inBlock, Exit.then])
        rw [HR3.out]
        refine parse_out (cs := #[.int .i64 0, .int .i64 0, .int .i64 0]) (g := w.heap.size) rfl rfl rfl ?_ ⟨rfl, ?_⟩
        · exact Blk3.put HX5.out.one _ _ _
        · exact Blk3.bel HX5.out.bel (Nat.le_refl _) _ _ _
  · have h5i : ((r.size : Int) == 5) = false := by simp; omega
    go_enter Tryz.func144, Tryz.ntmps144
    go_wp2_with (first
      | (go_at_call 168; refine (HCP.out _).mono ?_; rintro _ w2 ⟨rfl, hw2⟩; replace hw2 := hw2; subst hw2)
      | (go_at_call 169; refine (HNY.out _).mono ?_; rintro _ w2 ⟨rfl, hw2⟩; subst hw2)
      | fail)
    have HR3 := Lib.hid (show rest3 s r y = none by unfold rest3; rw [if_neg (fun h => h5 h.1)])
    rw [HR3.out]
    exact bodyPost_ret (v := .tuple #[.agg #[.int .i64 0, .int .i64 0, .int .i64 0], .int .i64 1]) (by simp [results, Tryz.results144, go_sem]) rfl ⟨rfl, ((Below.refl _ _).alloc (Nat.le_refl _) _).alloc (by simp) _⟩
theorem parse_any (s : ByteArray) (hs : s.size ≤ 64) (w : World) (ht : Tab w.heap.size w) : Calls Tryz.prog 144 #[.string s] w fun e w' => e = .returned (.tuple #[dateV (prs s), errV (prs s)]) ∧ Below w.heap.size w w' := by
  cases hp : Lib.hasPrefix s.data.toList [45, 45]
  · exact parse_num s hs w ht hp
  · exact parse_cut s hs w ht hp
end Go.Proofs.YtphijnkiiokieaaGreatDoor.Day
/- Lines of a contact: the value as it is kept. -/
namespace Go.Proofs.YtphijnkiiokieaaGreatDoor
open Go.RowKit
open Go.Lib hiding intOf
set_option linter.unusedVariables false
set_option maxRecDepth 20000
def dayE (t : ByteArray) : Int := match Day.prs t with
  | some _ => 0
  | none => 1
theorem dayE_val (t : ByteArray) : Day.errV (Day.prs t) = .int .i64 (dayE t) := by
  unfold dayE
  cases Day.prs t <;> rfl
def valueS (k : Int) (s : ByteArray) : ByteArray × Int := if k = 3 then telS s else if k = 4 then mailS s else if k = 5 ∧ (cleanS s).2 = 0 then ((cleanS s).1, dayE (cleanS s).1) else cleanS s
set_option maxHeartbeats 4000000 in
theorem value_any (k : Int) (s : ByteArray) (hs : s.size ≤ 1000000) (w : World) (hT : Tabs w) (hM : Mx w) (hD : Day.Tab w.heap.size w) : Calls Tryz.prog 128 #[.int .i64 k, .string s] w fun e w' => e = .returned (.tuple #[.string (valueS k s).1, .int .i64 (valueS k s).2]) ∧ Below w.heap.size w w' := by
  have HC := Lib.hid (clean_any s hs w hT)
  by_cases h3 : k = 3
  · subst h3
    have H := Lib.hid (tcanon_any s hs w hT)
    have HV := Lib.hid (show valueS 3 s = telS s from rfl)
    clear hT hM hD
    go_enter Tryz.func128, Tryz.ntmps128
    go_wp2_with (go_at_call 141; (with_reducible refine (H.out).mono ?_); rintro e w1 ⟨rfl, hb⟩; have HB1 := Lib.hid hb; clear hb)
    go_ret2
    exact ⟨by rw [HV.out]; rfl, HB1.out⟩
  by_cases h4 : k = 4
  · subst h4
    have H := Lib.hid (mcanon_any s hs w hT hM)
    have HV := Lib.hid (show valueS 4 s = mailS s from rfl)
    clear hT hM hD
    go_enter Tryz.func128, Tryz.ntmps128
    go_wp2_with (go_at_call 142; (with_reducible refine (H.out).mono ?_); rintro e w1 ⟨rfl, hb⟩; have HB1 := Lib.hid hb; clear hb)
    go_ret2
    exact ⟨by rw [HV.out]; rfl, HB1.out⟩
  have d3 : (k == 3) = false := by simpa using h3
  have d4 : (k == 4) = false := by simpa using h4
  have HV := Lib.hid (show valueS k s = if k = 5 ∧ (cleanS s).2 = 0 then ((cleanS s).1, dayE (cleanS s).1) else cleanS s by unfold valueS; rw [if_neg h3, if_neg h4])
  have hle := clean_le s hs
  obtain ⟨⟨t, e0⟩, ht⟩ : ∃ t, cleanS s = t := ⟨_, rfl⟩
  rw [ht] at HC HV hle
  simp only at HV hle
  have HTD := Lib.hid hD
  clear h3 h4 ht hT hM hD
  by_cases h0 : e0 = 0
  · have c0 : (e0 == 0) = true := by simpa using h0
    by_cases h5 : k = 5
    · have d5 : (k == 5) = true := by simpa using h5
      have H0 := Lib.hid (show valueS k s = (t, dayE t) by rw [HV.out, if_pos ⟨h5, h0⟩])
      have HP := Lib.hid (fun v (h : Below w.heap.size w v) => Day.parse_any t hle v (Day.tab_on HTD.out h))
      rw [dayE_val] at HP
      clear h5 h0 HV
      go_enter Tryz.func128, Tryz.ntmps128
      go_wp2_with (go_at_call 143; (with_reducible refine (HC.out).mono ?_); rintro e w1 ⟨rfl, hb⟩; have HB1 := Lib.hid hb; clear hb)
      go_wp2_with (go_at_call 144; (with_reducible refine (HP.out _ HB1.out).mono ?_); rintro e w2 ⟨rfl, hb⟩; have HB2 := Lib.hid hb; clear hb)
      go_ret2
      exact ⟨by rw [H0.out]; rfl, HB1.out.trans (HB2.out.mono HB1.out.size)⟩
    · have d5 : (k == 5) = false := by simpa using h5
      have H0 := Lib.hid (show valueS k s = (t, e0) by rw [HV.out, if_neg (fun h => h5 h.1)])
      clear h5 h0 HV
      go_enter Tryz.func128, Tryz.ntmps128
      go_wp2_with (go_at_call 143; (with_reducible refine (HC.out).mono ?_); rintro e w1 ⟨rfl, hb⟩; have HB1 := Lib.hid hb; clear hb)
      go_ret2
      exact ⟨by rw [H0.out]; rfl, HB1.out⟩
  · have c0 : (e0 == 0) = false := by simpa using h0
    have H0 := Lib.hid (show valueS k s = (t, e0) by rw [HV.out, if_neg (fun h => h0 h.2)])
    clear h0 HV
    go_enter Tryz.func128, Tryz.ntmps128
    go_wp2_with (go_at_call 143; (with_reducible refine (HC.out).mono ?_); rintro e w1 ⟨rfl, hb⟩; have HB1 := Lib.hid hb; clear hb)
    go_ret2
    exact ⟨by rw [H0.out]; rfl, HB1.out⟩
end Go.Proofs.YtphijnkiiokieaaGreatDoor
/- Lines of a contact: Canon. -/
namespace Go.Proofs.YtphijnkiiokieaaGreatDoor
open Go.RowKit
open Go.Lib hiding intOf
set_option linter.unusedVariables false
set_option maxRecDepth 20000
attribute [local go_sem ↓] Go.wp_at_zero Go.wp_at_succ
structure Fx2 (w0 wr : World) (B C : Nat) (k l : Int) (v : ByteArray) (k2 l2 : Int) (v2 : ByteArray) : Prop where
  one : Blk wr B 92 #[.int .i64 k, .int .i64 l, .string v]
  two : Blk wr C 92 #[.int .i64 k2, .int .i64 l2, .string v2]
  bel : Below w0.heap.size w0 wr
theorem Fx2.step {w0 wr w' : World} {B C : Nat} {k l : Int} {v : ByteArray} {k2 l2 : Int} {v2 : ByteArray} (h : Fx2 w0 wr B C k l v k2 l2 v2) (hb : Below wr.heap.size wr w') : Fx2 w0 w' B C k l v k2 l2 v2 :=
  ⟨h.one.below hb h.one.lt, h.two.below hb h.two.lt, h.bel.trans (hb.mono h.bel.size)⟩
theorem Fx2.new (w : World) (k l : Int) (v : ByteArray) (k2 l2 : Int) (v2 : ByteArray) : Fx2 w ((w.alloc (.cells #[.int .i64 k, .int .i64 l, .string v] 92)).alloc (.cells #[.int .i64 k2, .int .i64 l2, .string v2] 92)) w.heap.size (w.heap.size + 1) k l v k2 l2 v2 :=
  ⟨(Blk.new w 92 _).alloc _, by have := Blk.new (w.alloc (.cells #[.int .i64 k, .int .i64 l, .string v] 92)) 92 #[.int .i64 k2, .int .i64 l2, .string v2]; simpa using this, two_boxes _ _ _ _⟩
theorem canon_out {cs : Array Value} (hc : cs.size = 3) {R : Ending → World → Prop} {a : Act} {w : World} {g : Nat} (h2 : a.tmps.getD 2 undef = .pointer (some ⟨g, 0, none⟩)) (hd : a.defers = []) (hg : Blk w g 92 cs)
    (hR : R (.returned (.tuple #[.agg cs, a.tmps.getD 3 undef])) w) : bodyPost Tryz.prog Tryz.f109 R .ret a w :=
  bodyPost_ret (Day.results_cell1 (fn := Tryz.f109) rfl a.tmps Tryz.prog w g 92 cs (0, 0) _ h2 hg Tryz.underlying92 (by rw [hc]; rfl)) hd hR
theorem put3 {w : World} {g : Nat} {ty : TypeId} {a b c : Value} (h : Blk w g ty #[a, b, c]) (x y z : Value) : Blk (((w.setCell ⟨g, 0, none⟩ x).setCell ⟨g, 1, none⟩ y).setCell ⟨g, 2, none⟩ z) g ty #[x, y, z] := ((h.set_ 0 x).set_ 1 y).set_ 2 z
theorem bel3 {w0 w : World} {g B : Nat} (h : Below B w0 w) (hg : B ≤ g) (x y z : Value) : Below B w0 (((w.setCell ⟨g, 0, none⟩ x).setCell ⟨g, 1, none⟩ y).setCell ⟨g, 2, none⟩ z) := ((h.setCell (p := ⟨g, 0, none⟩) hg x).setCell (p := ⟨g, 1, none⟩) hg y).setCell (p := ⟨g, 2, none⟩) hg z
def canonV (k l : Int) (v : ByteArray) : Value := if (kindW k).toList.isEmpty = true ∨ labelledB k l = false then .tuple #[fieldV 0 0 ⟨#[]⟩, .int .i64 1] else if (valueS k v).2 = 0 then .tuple #[fieldV k l (valueS k v).1, .int .i64 0] else .tuple #[fieldV 0 0 ⟨#[]⟩, .int .i64 (valueS k v).2]
set_option maxHeartbeats 4000000 in
theorem fcanon_any (k l : Int) (v : ByteArray) (hs : v.size ≤ 1000000) (w : World) (hT : Tabs w) (hM : Mx w) (hD : Day.Tab w.heap.size w) : Calls Tryz.prog 109 #[fieldV k l v] w fun e w' => e = .returned (canonV k l v) ∧ Below w.heap.size w w' := by
  have HK := Lib.hid (fun w => kindWord_any k w)
  have HL := Lib.hid (fun w => labelled_any k l w)
  have HX := Lib.hid (Fx2.new w k l v 0 0 ⟨#[]⟩)
  have HV := Lib.hid (show canonV k l v = if (kindW k).toList.isEmpty = true ∨ labelledB k l = false then .tuple #[fieldV 0 0 ⟨#[]⟩, .int .i64 1] else if (valueS k v).2 = 0 then .tuple #[fieldV k l (valueS k v).1, .int .i64 0] else .tuple #[fieldV 0 0 ⟨#[]⟩, .int .i64 (valueS k v).2] from rfl)
  obtain ⟨K, hK⟩ : ∃ K, kindW k = K := ⟨_, rfl⟩
  obtain ⟨b, hb⟩ : ∃ b, labelledB k l = b := ⟨_, rfl⟩
  obtain ⟨R, hR⟩ : ∃ R, canonV k l v = R := ⟨_, rfl⟩
  rw [hK, hb, hR] at HV
  rw [hK] at HK
  rw [hb] at HL
  rw [hR]
  clear hK hb hR
  cases hk : K.toList.isEmpty with
  | true =>
    have H0 := Lib.hid (show R = .tuple #[fieldV 0 0 ⟨#[]⟩, .int .i64 1] by rw [HV.out, if_pos (.inl hk)])
    clear hT hM hD HV
    go_enter Tryz.func109, Tryz.ntmps109
    go_wp2_with (go_at_call 107; (with_reducible refine (HK.out _).mono ?_); rintro e w1 ⟨rfl, hw⟩; replace hw := hw.symm; subst hw)
    (try simp only [Exit.inBlock, Exit.then])
    rw [H0.out]
    exact canon_out (cs := #[.int .i64 0, .int .i64 0, .string ⟨#[]⟩]) (g := w.heap.size + 1) rfl rfl rfl HX.out.two ⟨rfl, HX.out.bel⟩
  | false =>
    cases b with
    | false =>
      have H0 := Lib.hid (show R = .tuple #[fieldV 0 0 ⟨#[]⟩, .int .i64 1] by rw [HV.out, if_pos (.inr rfl)])
      clear hT hM hD HV
      go_enter Tryz.func109, Tryz.ntmps109
      go_wp2_with (first | (go_at_call 107; (with_reducible refine (HK.out _).mono ?_); rintro e w1 ⟨rfl, hw⟩; replace hw := hw.symm; subst hw) | (go_at_call 127; (with_reducible refine (HL.out _).mono ?_); rintro e w1 ⟨rfl, hw⟩; replace hw := hw.symm; subst hw))
      (try simp only [Exit.inBlock, Exit.then])
      rw [H0.out]
      exact canon_out (cs := #[.int .i64 0, .int .i64 0, .string ⟨#[]⟩]) (g := w.heap.size + 1) rfl rfl rfl HX.out.two ⟨rfl, HX.out.bel⟩
    | true =>
      have HV2 := Lib.hid (show R = if (valueS k v).2 = 0 then .tuple #[fieldV k l (valueS k v).1, .int .i64 0] else .tuple #[fieldV 0 0 ⟨#[]⟩, .int .i64 (valueS k v).2] by rw [HV.out, if_neg (by rw [hk]; simp)])
      have HVA := Lib.hid (value_any k v hs _ (tabs_on hT HX.out.bel (tabs_size hT)) (hM.keep HX.out.bel hM.lt) (Day.tab_on hD HX.out.bel))
      obtain ⟨⟨t, e0⟩, ht⟩ : ∃ t, valueS k v = t := ⟨_, rfl⟩
      rw [ht] at HV2 HVA
      clear hT hM hD HV ht
      by_cases h0 : e0 = 0
      · subst h0
        have H0 := Lib.hid (show R = .tuple #[fieldV k l t, .int .i64 0] from HV2.out)
        clear HV2
        go_enter Tryz.func109, Tryz.ntmps109
        go_wp2_with (first | (go_at_call 107; (with_reducible refine (HK.out _).mono ?_); rintro e w1 ⟨rfl, hw⟩; replace hw := hw.symm; subst hw) | (go_at_call 127; (with_reducible refine (HL.out _).mono ?_); rintro e w1 ⟨rfl, hw⟩; replace hw := hw.symm; subst hw) | (go_at_call 128; (with_reducible refine (HVA.out).mono ?_); rintro e w3 ⟨rfl, hb⟩; have HX3 := Lib.hid (HX.out.step hb); have a0 := HX3.out.one.cell 0; have a1 := HX3.out.one.cell 1; have a2 := HX3.out.one.cell 2; have f2 := HX3.out.one.frozen 2; have b0 := HX3.out.two.cell 0; have b1 := HX3.out.two.cell 1; have b2 := HX3.out.two.cell 2; have g0 := HX3.out.two.frozen 0; have g1 := HX3.out.two.frozen 1; have g2 := HX3.out.two.frozen 2; clear hb))
        (try simp only [Exit.inBlock, Exit.then])
        rw [H0.out]
        refine canon_out (cs := #[.int .i64 k, .int .i64 l, .string t]) (g := w.heap.size + 1) rfl rfl rfl ?_ ⟨rfl, ?_⟩
        · exact put3 (HX3.out.two.far (by show w.heap.size + 1 ≠ w.heap.size; omega) _) _ _ _
        · exact bel3 (HX3.out.bel.setCell (p := ⟨w.heap.size, 2, none⟩) (Nat.le_refl _) _) (Nat.le_succ _) _ _ _
      · have H0 := Lib.hid (show R = .tuple #[fieldV 0 0 ⟨#[]⟩, .int .i64 e0] by rw [HV2.out, if_neg h0])
        have d0 : (e0 != 0) = true := by simpa using h0
        clear HV2 h0
        go_enter Tryz.func109, Tryz.ntmps109
        go_wp2_with (first | (go_at_call 107; (with_reducible refine (HK.out _).mono ?_); rintro e w1 ⟨rfl, hw⟩; replace hw := hw.symm; subst hw) | (go_at_call 127; (with_reducible refine (HL.out _).mono ?_); rintro e w1 ⟨rfl, hw⟩; replace hw := hw.symm; subst hw) | (go_at_call 128; (with_reducible refine (HVA.out).mono ?_); rintro e w3 ⟨rfl, hb⟩; have HX3 := Lib.hid (HX.out.step hb); have b0 := HX3.out.two.cell 0; have b1 := HX3.out.two.cell 1; have b2 := HX3.out.two.cell 2; have g0 := HX3.out.two.frozen 0; have g1 := HX3.out.two.frozen 1; have g2 := HX3.out.two.frozen 2; clear hb))
        (try simp only [Exit.inBlock, Exit.then])
        rw [H0.out]
        refine canon_out (cs := #[.int .i64 0, .int .i64 0, .string ⟨#[]⟩]) (g := w.heap.size + 1) rfl rfl rfl ?_ ⟨rfl, ?_⟩
        · exact put3 HX3.out.two _ _ _
        · exact bel3 HX3.out.bel (Nat.le_succ _) _ _ _
end Go.Proofs.YtphijnkiiokieaaGreatDoor
/- Lines of a contact: May. -/
namespace Go.Proofs.YtphijnkiiokieaaGreatDoor
open Go.RowKit
open Go.Lib hiding intOf
set_option linter.unusedVariables false
set_option maxRecDepth 20000
attribute [local go_sem ↓] Go.wp_at_zero Go.wp_at_succ
def mayF (k l : Int) (v : ByteArray) : Bool := !(kindW k).toList.isEmpty && labelledB k l && ((valueS k v).2 == 0) && ((valueS k v).1.toList == v.toList)
theorem canonV_cases (k l : Int) (v : ByteArray) : (∃ e, e ≠ 0 ∧ canonV k l v = .tuple #[fieldV 0 0 ⟨#[]⟩, .int .i64 e] ∧ mayF k l v = false) ∨ (∃ t, canonV k l v = .tuple #[fieldV k l t, .int .i64 0] ∧ mayF k l v = (t.toList == v.toList)) := by
  unfold canonV mayF
  cases h1 : (kindW k).toList.isEmpty with
  | true => exact .inl ⟨1, by decide, by rw [if_pos (.inl rfl)], by simp⟩
  | false =>
    cases h2 : labelledB k l with
    | false => exact .inl ⟨1, by decide, by rw [if_pos (.inr rfl)], by simp⟩
    | true =>
      rw [if_neg (by simp)]
      by_cases h3 : (valueS k v).2 = 0
      · exact .inr ⟨(valueS k v).1, by rw [if_pos h3], by rw [h3]; simp⟩
      · refine .inl ⟨(valueS k v).2, h3, by rw [if_neg h3], ?_⟩
        have : ((valueS k v).2 == 0) = false := by simpa using h3
        rw [this]; simp
set_option maxHeartbeats 4000000 in
theorem fmay_any (k l : Int) (v : ByteArray) (hs : v.size ≤ 1000000) (w : World) (hT : Tabs w) (hM : Mx w) (hD : Day.Tab w.heap.size w) : Calls Tryz.prog 99 #[fieldV k l v] w fun e w' => e = .returned (.bool (mayF k l v)) ∧ Below w.heap.size w w' := by
  have hb0 : Below w.heap.size w (w.alloc (.cells #[.int .i64 k, .int .i64 l, .string v] 92)) := (Below.refl _ _).alloc (Nat.le_refl _) _
  have HB0 := Lib.hid hb0
  have HX := Lib.hid (Blk.new w 92 #[.int .i64 k, .int .i64 l, .string v])
  have HC := Lib.hid (fcanon_any k l v hs _ (tabs_on hT hb0 (tabs_size hT)) (hM.keep hb0 hM.lt) (Day.tab_on hD hb0))
  obtain ⟨r, hr⟩ : ∃ r, mayF k l v = r := ⟨_, rfl⟩
  rcases canonV_cases k l v with ⟨e, he, h1, h2⟩ | ⟨t, h1, h2⟩
  · rw [hr] at h2 ⊢
    rw [h1] at HC
    have d : (e == 0) = false := by simpa using he
    subst h2
    clear hb0 hT hM hD h1 hr he
    go_enter Tryz.func99, Tryz.ntmps99
    go_wp2_with (go_at_call 109; (with_reducible refine (HC.out).mono ?_); rintro e w3 ⟨rfl, hb⟩; have HX3 := Lib.hid (HX.out.below hb HX.out.lt); have HB3 := Lib.hid (HB0.out.trans (hb.mono HB0.out.size)); clear hb)
    go_ret
    exact ⟨rfl, HB3.out.alloc HB3.out.size _⟩
  · rw [hr] at h2 ⊢
    rw [h1] at HC
    cases hq : (t.toList == v.toList)
    all_goals (
      rw [hq] at h2
      subst h2
      clear hb0 hT hM hD h1 hr
      go_enter Tryz.func99, Tryz.ntmps99
      go_wp2_with (go_at_call 109; (with_reducible refine (HC.out).mono ?_); rintro e w3 ⟨rfl, hb⟩; have HX3 := Lib.hid (HX.out.below hb HX.out.lt); have a0 := ((HX3.out.alloc (.cells #[.int .i64 k, .int .i64 l, .string t] 92)).cell 0); have a1 := ((HX3.out.alloc (.cells #[.int .i64 k, .int .i64 l, .string t] 92)).cell 1); have a2 := ((HX3.out.alloc (.cells #[.int .i64 k, .int .i64 l, .string t] 92)).cell 2); have HB3 := Lib.hid (HB0.out.trans (hb.mono HB0.out.size)); clear hb)
      go_ret
      exact ⟨rfl, HB3.out.alloc HB3.out.size _⟩)
end Go.Proofs.YtphijnkiiokieaaGreatDoor
/- Lines of a contact: Line. -/
namespace Go.Proofs.YtphijnkiiokieaaGreatDoor
open Go.RowKit
open Go.Lib hiding intOf
set_option linter.unusedVariables false
set_option maxRecDepth 20000
attribute [local go_sem ↓] Go.wp_at_zero Go.wp_at_succ
def lineF (k l : Int) (v : ByteArray) : ByteArray := if mayF k l v = true then (headW k l ++ ⟨#[58]⟩) ++ v else ⟨#[]⟩
theorem head_size (k l : Int) : ((headW k l).size : Int) ≤ 9 := by
  unfold headW
  have h1 := kindW_size k
  have h2 := labelW_size l
  split
  · omega
  · have y : (⟨#[59]⟩ : ByteArray).size = 1 := rfl
    rw [ByteArray.size_append, ByteArray.size_append, y]; omega
set_option maxHeartbeats 4000000 in
theorem fline_any (k l : Int) (v : ByteArray) (hs : v.size ≤ 1000000) (w : World) (hT : Tabs w) (hM : Mx w) (hD : Day.Tab w.heap.size w) : Calls Tryz.prog 117 #[fieldV k l v] w fun e w' => e = .returned (.string (lineF k l v)) ∧ Below w.heap.size w w' := by
  have hb0 : Below w.heap.size w (w.alloc (.cells #[.int .i64 k, .int .i64 l, .string v] 92)) := (Below.refl _ _).alloc (Nat.le_refl _) _
  have HB0 := Lib.hid hb0
  have HX := Lib.hid (Blk.new w 92 #[.int .i64 k, .int .i64 l, .string v])
  have HC := Lib.hid (fmay_any k l v hs _ (tabs_on hT hb0 (tabs_size hT)) (hM.keep hb0 hM.lt) (Day.tab_on hD hb0))
  have HH := Lib.hid (fun w => head_any k l w)
  have hh := head_size k l
  have hsI : (v.size : Int) ≤ 1000000 := by omega
  have z : ((⟨#[58]⟩ : ByteArray).size : Int) = 1 := rfl
  obtain ⟨r, hr⟩ : ∃ r, lineF k l v = r := ⟨_, rfl⟩
  have HR := Lib.hid (show r = if mayF k l v = true then (headW k l ++ ⟨#[58]⟩) ++ v else ⟨#[]⟩ from hr.symm)
  rw [hr]
  obtain ⟨m, hm⟩ : ∃ m, mayF k l v = m := ⟨_, rfl⟩
  obtain ⟨A, hA⟩ : ∃ A, headW k l = A := ⟨_, rfl⟩
  rw [hm, hA] at HR
  rw [hm] at HC
  rw [hA] at HH hh
  have hA1 : ((A ++ (⟨#[58]⟩ : ByteArray)).size : Int) ≤ 10 := by rw [ByteArray.size_append]; omega
  clear hb0 hT hM hD hr hm hA
  cases m with
  | false =>
    have H0 := Lib.hid (show r = ⟨#[]⟩ from HR.out)
    go_enter Tryz.func117, Tryz.ntmps117
    go_wp2_with (go_at_call 99; (with_reducible refine (HC.out).mono ?_); rintro e w3 ⟨rfl, hb⟩; have HB3 := Lib.hid (HB0.out.trans (hb.mono HB0.out.size)); clear hb)
    go_ret
    exact ⟨by rw [H0.out]; rfl, HB3.out⟩
  | true =>
    have H0 := Lib.hid (show r = (A ++ ⟨#[58]⟩) ++ v from HR.out)
    go_enter Tryz.func117, Tryz.ntmps117
    go_wp2_with (go_at_call 99; (with_reducible refine (HC.out).mono ?_); rintro e w3 ⟨rfl, hb⟩; have HX3 := Lib.hid (HX.out.below hb HX.out.lt); have a0 := HX3.out.cell 0; have a1 := HX3.out.cell 1; have a2 := HX3.out.cell 2; have HB3 := Lib.hid (HB0.out.trans (hb.mono HB0.out.size)); clear hb)
    go_quiet ((go_at_call 98; exact Calls.quiet_of_same (HH.out _)))
    go_wp2
    go_ret
    exact ⟨by rw [H0.out]; rfl, by first | exact HB3.out | exact below_drewN HB3.out _⟩
end Go.Proofs.YtphijnkiiokieaaGreatDoor
/- Lines of a contact: no two heads are alike. -/
namespace Go.Proofs.YtphijnkiiokieaaGreatDoor
open Go.RowKit
set_option linter.unusedVariables false
set_option maxRecDepth 20000
theorem heads_unlike : ∀ k : Fin 7, ∀ l : Fin 4, ∀ k2 : Fin 7, ∀ l2 : Fin 4, 1 ≤ k.val → 1 ≤ k2.val → (headW (k.val : Int) (l.val : Int)).data.toList = (headW (k2.val : Int) (l2.val : Int)).data.toList → k = k2 ∧ l = l2 := by decide +kernel
theorem heads_colon : ∀ k : Fin 7, ∀ l : Fin 4, (58 : UInt8) ∉ (headW (k.val : Int) (l.val : Int)).data.toList := by decide +kernel
theorem head_one {k l k2 l2 : Int} (h1 : 1 ≤ k) (h2 : k ≤ 6) (h3 : 0 ≤ l) (h4 : l ≤ 3) (g1 : 1 ≤ k2) (g2 : k2 ≤ 6) (g3 : 0 ≤ l2) (g4 : l2 ≤ 3) (e : headW k l = headW k2 l2) : k = k2 ∧ l = l2 := by
  obtain ⟨a, rfl⟩ : ∃ a : Nat, k = (a : Int) := ⟨k.toNat, by omega⟩
  obtain ⟨b, rfl⟩ : ∃ b : Nat, l = (b : Int) := ⟨l.toNat, by omega⟩
  obtain ⟨c, rfl⟩ : ∃ c : Nat, k2 = (c : Int) := ⟨k2.toNat, by omega⟩
  obtain ⟨d, rfl⟩ : ∃ d : Nat, l2 = (d : Int) := ⟨l2.toNat, by omega⟩
  have h := heads_unlike ⟨a, by omega⟩ ⟨b, by omega⟩ ⟨c, by omega⟩ ⟨d, by omega⟩ (by show 1 ≤ a; omega) (by show 1 ≤ c; omega) (by show (headW (a : Int) (b : Int)).data.toList = (headW (c : Int) (d : Int)).data.toList; rw [e])
  have e1 := congrArg Fin.val h.1
  have e2 := congrArg Fin.val h.2
  exact ⟨by have : a = c := e1; omega, by have : b = d := e2; omega⟩
theorem head_colon {k l : Int} (h1 : 0 ≤ k) (h2 : k ≤ 6) (h3 : 0 ≤ l) (h4 : l ≤ 3) : (58 : UInt8) ∉ (headW k l).data.toList := by
  obtain ⟨a, rfl⟩ : ∃ a : Nat, k = (a : Int) := ⟨k.toNat, by omega⟩
  obtain ⟨b, rfl⟩ : ∃ b : Nat, l = (b : Int) := ⟨l.toNat, by omega⟩
  exact heads_colon ⟨a, by omega⟩ ⟨b, by omega⟩
theorem may_kinds {k l : Int} {v : ByteArray} (h : mayF k l v = true) : 1 ≤ k ∧ k ≤ 6 ∧ 0 ≤ l ∧ l ≤ 3 := by
  unfold mayF at h
  simp only [Bool.and_eq_true] at h
  obtain ⟨⟨⟨h1, h2⟩, _⟩, _⟩ := h
  constructor
  · false_or_by_contra
    have : kindW k = ⟨#[]⟩ := by unfold kindW; rw [if_neg (by omega), if_neg (by omega), if_neg (by omega), if_neg (by omega), if_neg (by omega), if_neg (by omega)]
    rw [this] at h1
    exact absurd h1 (by decide +kernel)
  constructor
  · false_or_by_contra
    have : kindW k = ⟨#[]⟩ := by unfold kindW; rw [if_neg (by omega), if_neg (by omega), if_neg (by omega), if_neg (by omega), if_neg (by omega), if_neg (by omega)]
    rw [this] at h1
    exact absurd h1 (by decide +kernel)
  · unfold labelledB at h2
    split at h2
    · omega
    · split at h2
      · omega
      · split at h2
        · omega
        · cases h2
end Go.Proofs.YtphijnkiiokieaaGreatDoor
namespace Go.Proofs.YtphijnkiiokieaaGreatDoor
open Go.RowKit
open Go.Lib hiding intOf
set_option linter.unusedVariables false
set_option maxRecDepth 20000
def pairs : List (Int × Int) := [(1, 0), (1, 1), (1, 2), (1, 3), (2, 0), (2, 1), (2, 2), (2, 3), (3, 0), (3, 1), (3, 2), (3, 3), (4, 0), (4, 1), (4, 2), (4, 3), (5, 0), (5, 1), (5, 2), (5, 3), (6, 0), (6, 1), (6, 2), (6, 3)]
def fits (h v : ByteArray) (k l : Int) : Bool := (h.toList == (headW k l).toList) && mayF k l v
structure Fld where
  k : Int
  l : Int
  v : ByteArray
  e : Int
def noF : Fld := ⟨0, 0, ⟨#[]⟩, 1⟩
def cutH (s : ByteArray) : ByteArray := ⟨(cut s.data.toList [58]).1.toArray⟩
def cutV (s : ByteArray) : ByteArray := ⟨(cut s.data.toList [58]).2.1.toArray⟩
def cutO (s : ByteArray) : Bool := (cut s.data.toList [58]).2.2
def findF (h v : ByteArray) : Fld := match pairs.find? (fun p => fits h v p.1 p.2) with
  | some p => ⟨p.1, p.2, v, 0⟩
  | none => noF
def parseF (s : ByteArray) : Fld := if cutO s = true then findF (cutH s) (cutV s) else noF
theorem in_pairs {k l : Int} (h1 : 1 ≤ k) (h2 : k ≤ 6) (h3 : 0 ≤ l) (h4 : l ≤ 3) : (k, l) ∈ pairs := by
  rcases (show k = 1 ∨ k = 2 ∨ k = 3 ∨ k = 4 ∨ k = 5 ∨ k = 6 by omega) with rfl | rfl | rfl | rfl | rfl | rfl <;> rcases (show l = 0 ∨ l = 1 ∨ l = 2 ∨ l = 3 by omega) with rfl | rfl | rfl | rfl <;> decide
theorem pairs_in : ∀ p ∈ pairs, 1 ≤ p.1 ∧ p.1 ≤ 6 ∧ 0 ≤ p.2 ∧ p.2 ≤ 3 := by decide
theorem fits_head {h v : ByteArray} {k l : Int} (hf : fits h v k l = true) : h = headW k l ∧ mayF k l v = true := by
  unfold fits at hf
  rw [Bool.and_eq_true] at hf
  refine ⟨bs_ext ?_, hf.2⟩
  have := hf.1
  simp only [ByteArray.toList_eq] at this
  exact eq_of_beq this
theorem find_one {h v : ByteArray} {k l : Int} (h1 : 1 ≤ k) (h2 : k ≤ 6) (h3 : 0 ≤ l) (h4 : l ≤ 3) (hf : fits h v k l = true) : findF h v = ⟨k, l, v, 0⟩ := by
  unfold findF
  cases hq : pairs.find? (fun p => fits h v p.1 p.2) with
  | none =>
    have := List.find?_eq_none.1 hq (k, l) (in_pairs h1 h2 h3 h4)
    exact absurd hf this
  | some p =>
    have hp := List.find?_some hq
    obtain ⟨g1, g2, g3, g4⟩ := pairs_in p (List.mem_of_find?_eq_some hq)
    obtain ⟨e1, e2⟩ := head_one h1 h2 h3 h4 g1 g2 g3 g4 ((fits_head hf).1.symm.trans (fits_head hp).1)
    rw [e1, e2]
theorem find_none {h v : ByteArray} (hn : ∀ k l : Int, 1 ≤ k → k ≤ 6 → 0 ≤ l → l ≤ 3 → fits h v k l = false) : findF h v = noF := by
  unfold findF
  have : pairs.find? (fun p => fits h v p.1 p.2) = none := List.find?_eq_none.2 fun p hp => by
    obtain ⟨g1, g2, g3, g4⟩ := pairs_in p hp
    rw [hn _ _ g1 g2 g3 g4]; decide
  rw [this]
theorem find_cases (h v : ByteArray) : (∃ k l, 1 ≤ k ∧ k ≤ 6 ∧ 0 ≤ l ∧ l ≤ 3 ∧ h = headW k l ∧ mayF k l v = true ∧ findF h v = ⟨k, l, v, 0⟩) ∨ findF h v = noF := by
  unfold findF
  cases hq : pairs.find? (fun p => fits h v p.1 p.2) with
  | none => exact .inr rfl
  | some p =>
    have hp := List.find?_some hq
    obtain ⟨g1, g2, g3, g4⟩ := pairs_in p (List.mem_of_find?_eq_some hq)
    obtain ⟨e1, e2⟩ := fits_head hp
    exact .inl ⟨p.1, p.2, g1, g2, g3, g4, e1, e2, rfl⟩
theorem parse_cases (s : ByteArray) : (∃ k l v, mayF k l v = true ∧ lineF k l v = s ∧ parseF s = ⟨k, l, v, 0⟩ ∧ v.size ≤ s.size) ∨ parseF s = noF := by
  unfold parseF
  by_cases hc : (58 : UInt8) ∈ s.data.toList
  · obtain ⟨a, b, e, ha⟩ := first_at _ _ hc
    have hcut := cut_has a b 58 ha
    rw [← e] at hcut
    have h1 : cutO s = true := by unfold cutO; rw [hcut]
    rw [if_pos h1]
    rcases find_cases (cutH s) (cutV s) with ⟨k, l, _, _, _, _, h, hm, hf⟩ | h
    · refine .inl ⟨k, l, cutV s, hm, ?_, hf, ?_⟩
      · unfold lineF
        rw [if_pos hm, ← h]
        apply bs_ext
        rw [app_list, app_list, e]
        unfold cutH cutV
        rw [hcut]
        simp
      · show (cutV s).size ≤ s.size
        unfold cutV
        rw [hcut]
        show b.toArray.size ≤ s.size
        have : s.data.toList.length = s.size := by simp
        rw [e] at this
        simp at this ⊢
        omega
    · exact .inr h
  · have hcut := cut_not s.data.toList 58 hc
    have h1 : cutO s = false := by unfold cutO; rw [hcut]
    rw [h1]
    exact .inr rfl
theorem parse_line {k l : Int} {v : ByteArray} (hm : mayF k l v = true) : parseF (lineF k l v) = ⟨k, l, v, 0⟩ := by
  obtain ⟨h1, h2, h3, h4⟩ := may_kinds hm
  have e : (lineF k l v).data.toList = (headW k l).data.toList ++ 58 :: v.data.toList := by
    unfold lineF; rw [if_pos hm, app_list, app_list]; simp
  have hcut := cut_has (headW k l).data.toList v.data.toList 58 (head_colon (by omega) h2 h3 h4)
  rw [← e] at hcut
  have hh : cutH (lineF k l v) = headW k l := by unfold cutH; rw [hcut]
  have hv : cutV (lineF k l v) = v := by unfold cutV; rw [hcut]
  have ho : cutO (lineF k l v) = true := by unfold cutO; rw [hcut]
  unfold parseF
  rw [if_pos ho, hh, hv]
  refine find_one h1 h2 h3 h4 ?_
  unfold fits
  rw [hm]; simp
end Go.Proofs.YtphijnkiiokieaaGreatDoor
