/- Lines of a contact: Canon. -/
import Derived.Test.YthknkglhppngoaaDoorFv
import Derived.Test.YthknkglhppngoaaDoorFl
namespace Go.Proofs.YthknkglhppngoaaDoor
open Go.RowKit
open Go.Lib hiding intOf
set_option linter.unusedVariables false
set_option maxRecDepth 20000
attribute [local go_sem ↓] Go.wp_at_zero Go.wp_at_succ
structure Fx2 (w0 wr : World) (B C : Nat) (k l : Int) (v : ByteArray) (k2 l2 : Int) (v2 : ByteArray) : Prop where
  one : Blk wr B 23 #[.int .i64 k, .int .i64 l, .string v]
  two : Blk wr C 23 #[.int .i64 k2, .int .i64 l2, .string v2]
  bel : Below w0.heap.size w0 wr
theorem Fx2.step {w0 wr w' : World} {B C : Nat} {k l : Int} {v : ByteArray} {k2 l2 : Int} {v2 : ByteArray} (h : Fx2 w0 wr B C k l v k2 l2 v2) (hb : Below wr.heap.size wr w') : Fx2 w0 w' B C k l v k2 l2 v2 :=
  ⟨h.one.below hb h.one.lt, h.two.below hb h.two.lt, h.bel.trans (hb.mono h.bel.size)⟩
theorem Fx2.new (w : World) (k l : Int) (v : ByteArray) (k2 l2 : Int) (v2 : ByteArray) : Fx2 w ((w.alloc (.cells #[.int .i64 k, .int .i64 l, .string v] 23)).alloc (.cells #[.int .i64 k2, .int .i64 l2, .string v2] 23)) w.heap.size (w.heap.size + 1) k l v k2 l2 v2 :=
  ⟨(Blk.new w 23 _).alloc _, by have := Blk.new (w.alloc (.cells #[.int .i64 k, .int .i64 l, .string v] 23)) 23 #[.int .i64 k2, .int .i64 l2, .string v2]; simpa using this, two_boxes _ _ _ _⟩
theorem canon_out {cs : Array Value} (hc : cs.size = 3) {R : Ending → World → Prop} {a : Act} {w : World} {g : Nat} (h2 : a.tmps.getD 2 undef = .pointer (some ⟨g, 0, none⟩)) (hd : a.defers = []) (hg : Blk w g 23 cs)
    (hR : R (.returned (.tuple #[.agg cs, a.tmps.getD 3 undef])) w) : bodyPost Tryd.prog Tryd.f9 R .ret a w :=
  bodyPost_ret (Day.results_cell1 (fn := Tryd.f9) rfl a.tmps Tryd.prog w g 23 cs (0, 0) _ h2 hg Tryd.underlying23 (by rw [hc]; rfl)) hd hR
theorem put3 {w : World} {g : Nat} {ty : TypeId} {a b c : Value} (h : Blk w g ty #[a, b, c]) (x y z : Value) : Blk (((w.setCell ⟨g, 0, none⟩ x).setCell ⟨g, 1, none⟩ y).setCell ⟨g, 2, none⟩ z) g ty #[x, y, z] := ((h.set_ 0 x).set_ 1 y).set_ 2 z
theorem bel3 {w0 w : World} {g B : Nat} (h : Below B w0 w) (hg : B ≤ g) (x y z : Value) : Below B w0 (((w.setCell ⟨g, 0, none⟩ x).setCell ⟨g, 1, none⟩ y).setCell ⟨g, 2, none⟩ z) := ((h.setCell (p := ⟨g, 0, none⟩) hg x).setCell (p := ⟨g, 1, none⟩) hg y).setCell (p := ⟨g, 2, none⟩) hg z
def canonV (k l : Int) (v : ByteArray) : Value := if (kindW k).toList.isEmpty = true ∨ labelledB k l = false then .tuple #[fieldV 0 0 ⟨#[]⟩, .int .i64 1] else if (valueS k v).2 = 0 then .tuple #[fieldV k l (valueS k v).1, .int .i64 0] else .tuple #[fieldV 0 0 ⟨#[]⟩, .int .i64 (valueS k v).2]
set_option maxHeartbeats 4000000 in
theorem fcanon_any (k l : Int) (v : ByteArray) (hs : v.size ≤ 1000000) (w : World) (hT : Tabs w) (hM : Mx w) (hD : Day.Tab w.heap.size w) : Calls Tryd.prog 9 #[fieldV k l v] w fun e w' => e = .returned (canonV k l v) ∧ Below w.heap.size w w' := by
  have HK := Lib.hid (fun w => kindWord_any k w)
  have HL := Lib.hid (fun w => labelled_any k l w)
  have HX := Lib.hid (Fx2.new w k l v 0 0 ⟨#[]⟩)
  have HV := Lib.hid (show canonV k l v = if (kindW k).toList.isEmpty = true ∨ labelledB k l = false then .tuple #[fieldV 0 0 ⟨#[]⟩, .int .i64 1] else if (valueS k v).2 = 0 then .tuple #[fieldV k l (valueS k v).1, .int .i64 0] else .tuple #[fieldV 0 0 ⟨#[]⟩, .int .i64 (valueS k v).2] from rfl)
  obtain ⟨K, hK⟩ : ∃ K, kindW k = K := ⟨_, rfl⟩
  obtain ⟨b, hb⟩ : ∃ b, labelledB k l = b := ⟨_, rfl⟩
  obtain ⟨R, hR⟩ : ∃ R, canonV k l v = R := ⟨_, rfl⟩
  rw [hK, hb, hR] at HV
  rw [hK] at HK
  rw [hb] at HL
  rw [hR]
  clear hK hb hR
  cases hk : K.toList.isEmpty with
  | true =>
    have H0 := Lib.hid (show R = .tuple #[fieldV 0 0 ⟨#[]⟩, .int .i64 1] by rw [HV.out, if_pos (.inl hk)])
    clear hT hM hD HV
    go_enter Tryd.func9, Tryd.ntmps9
    go_wp2_with (go_at_call 13; (with_reducible refine (HK.out _).mono ?_); rintro e w1 ⟨rfl, hw⟩; replace hw := hw.symm; subst hw)
    (try simp only [Exit.inBlock, Exit.then])
    rw [H0.out]
    exact canon_out (cs := #[.int .i64 0, .int .i64 0, .string ⟨#[]⟩]) (g := w.heap.size + 1) rfl rfl rfl HX.out.two ⟨rfl, HX.out.bel⟩
  | false =>
    cases b with
    | false =>
      have H0 := Lib.hid (show R = .tuple #[fieldV 0 0 ⟨#[]⟩, .int .i64 1] by rw [HV.out, if_pos (.inr rfl)])
      clear hT hM hD HV
      go_enter Tryd.func9, Tryd.ntmps9
      go_wp2_with (first | (go_at_call 13; (with_reducible refine (HK.out _).mono ?_); rintro e w1 ⟨rfl, hw⟩; replace hw := hw.symm; subst hw) | (go_at_call 14; (with_reducible refine (HL.out _).mono ?_); rintro e w1 ⟨rfl, hw⟩; replace hw := hw.symm; subst hw))
      (try simp only [Exit.inBlock, Exit.then])
      rw [H0.out]
      exact canon_out (cs := #[.int .i64 0, .int .i64 0, .string ⟨#[]⟩]) (g := w.heap.size + 1) rfl rfl rfl HX.out.two ⟨rfl, HX.out.bel⟩
    | true =>
      have HV2 := Lib.hid (show R = if (valueS k v).2 = 0 then .tuple #[fieldV k l (valueS k v).1, .int .i64 0] else .tuple #[fieldV 0 0 ⟨#[]⟩, .int .i64 (valueS k v).2] by rw [HV.out, if_neg (by rw [hk]; simp)])
      have HVA := Lib.hid (value_any k v hs _ (tabs_on hT HX.out.bel (tabs_size hT)) (hM.keep HX.out.bel hM.lt) (Day.tab_on hD HX.out.bel))
      obtain ⟨⟨t, e0⟩, ht⟩ : ∃ t, valueS k v = t := ⟨_, rfl⟩
      rw [ht] at HV2 HVA
      clear hT hM hD HV ht
      by_cases h0 : e0 = 0
      · subst h0
        have H0 := Lib.hid (show R = .tuple #[fieldV k l t, .int .i64 0] from HV2.out)
        clear HV2
        go_enter Tryd.func9, Tryd.ntmps9
        go_wp2_with (first | (go_at_call 13; (with_reducible refine (HK.out _).mono ?_); rintro e w1 ⟨rfl, hw⟩; replace hw := hw.symm; subst hw) | (go_at_call 14; (with_reducible refine (HL.out _).mono ?_); rintro e w1 ⟨rfl, hw⟩; replace hw := hw.symm; subst hw) | (go_at_call 15; (with_reducible refine (HVA.out).mono ?_); rintro e w3 ⟨rfl, hb⟩; have HX3 := Lib.hid (HX.out.step hb); have a0 := HX3.out.one.cell 0; have a1 := HX3.out.one.cell 1; have a2 := HX3.out.one.cell 2; have f2 := HX3.out.one.frozen 2; have b0 := HX3.out.two.cell 0; have b1 := HX3.out.two.cell 1; have b2 := HX3.out.two.cell 2; have g0 := HX3.out.two.frozen 0; have g1 := HX3.out.two.frozen 1; have g2 := HX3.out.two.frozen 2; clear hb))
        (try simp only [Exit.inBlock, Exit.then])
        rw [H0.out]
        refine canon_out (cs := #[.int .i64 k, .int .i64 l, .string t]) (g := w.heap.size + 1) rfl rfl rfl ?_ ⟨rfl, ?_⟩
        · exact put3 (HX3.out.two.far (by show w.heap.size + 1 ≠ w.heap.size; omega) _) _ _ _
        · exact bel3 (HX3.out.bel.setCell (p := ⟨w.heap.size, 2, none⟩) (Nat.le_refl _) _) (Nat.le_succ _) _ _ _
      · have H0 := Lib.hid (show R = .tuple #[fieldV 0 0 ⟨#[]⟩, .int .i64 e0] by rw [HV2.out, if_neg h0])
        have d0 : (e0 != 0) = true := by simpa using h0
        clear HV2 h0
        go_enter Tryd.func9, Tryd.ntmps9
        go_wp2_with (first | (go_at_call 13; (with_reducible refine (HK.out _).mono ?_); rintro e w1 ⟨rfl, hw⟩; replace hw := hw.symm; subst hw) | (go_at_call 14; (with_reducible refine (HL.out _).mono ?_); rintro e w1 ⟨rfl, hw⟩; replace hw := hw.symm; subst hw) | (go_at_call 15; (with_reducible refine (HVA.out).mono ?_); rintro e w3 ⟨rfl, hb⟩; have HX3 := Lib.hid (HX.out.step hb); have b0 := HX3.out.two.cell 0; have b1 := HX3.out.two.cell 1; have b2 := HX3.out.two.cell 2; have g0 := HX3.out.two.frozen 0; have g1 := HX3.out.two.frozen 1; have g2 := HX3.out.two.frozen 2; clear hb))
        (try simp only [Exit.inBlock, Exit.then])
        rw [H0.out]
        refine canon_out (cs := #[.int .i64 0, .int .i64 0, .string ⟨#[]⟩]) (g := w.heap.size + 1) rfl rfl rfl ?_ ⟨rfl, ?_⟩
        · exact put3 HX3.out.two _ _ _
        · exact bel3 HX3.out.bel (Nat.le_succ _) _ _ _
end Go.Proofs.YthknkglhppngoaaDoor
