/- The reference: answers laid in bytes. -/
import Derived.Test.YtdoldjfabgcgbaaNd
import Derived.Test.YtdoldjfabgcgbaaRNum
import Derived.Deep.RegionHeld3
namespace Go.Proofs.Ytdoldjfabgcgbaa
open Go.RowKit
open Go.Lib hiding intOf
set_option linter.unusedVariables false
set_option linter.unusedSimpArgs false
set_option maxRecDepth 100000
theorem bit_any (x : Bool) (w : World) : Calls Try.prog 40 #[.bool x] w fun e w' => e = .returned (.int .i64 (b01 x)) ∧ w' = w := by
  cases x
  · go_enter Try.func40, Try.ntmps40
    go_wp2
    go_ret
    exact ⟨rfl, rfl⟩
  · go_enter Try.func40, Try.ntmps40
    go_wp2
    go_ret
    exact ⟨rfl, rfl⟩
theorem rnum_on {B : Nat} {w : World} {v : Value} {l : List UInt8} (h : Own 5 B w v l) (hB : B ≤ w.heap.size) (hl : l.length ≤ 600000) (n : Int) (hn : n < 9223372036854775808) : Calls Try.prog 39 #[v, .int .i64 n] w fun e w' => ∃ v', e = .returned v' ∧ Own 5 B w' v' (l ++ encz n) ∧ Below w.heap.size w w' := by
  obtain ⟨A, cap, b, rfl, hb⟩ := h.byt
  exact (rnum_any hb (by omega) n hn).mono fun _ _ ⟨v', h1, h2, h3⟩ => ⟨v', h1, h2.mono hB, h3⟩
theorem rtext_on {B : Nat} {w : World} {v : Value} {l : List UInt8} (h : Own 5 B w v l) (hB : B ≤ w.heap.size) (hl : l.length ≤ 600000) (s : ByteArray) (hs : s.size ≤ 1000000) : Calls Try.prog 38 #[v, .string s] w fun e w' => ∃ v', e = .returned v' ∧ Own 5 B w' v' (l ++ enct s) ∧ Below w.heap.size w w' := by
  obtain ⟨A, cap, b, rfl, hb⟩ := h.byt
  exact (rtext_any hb (by omega) s hs).mono fun _ _ ⟨v', h1, h2, h3⟩ => ⟨v', h1, h2.mono hB, h3⟩
/-- What stands while bytes are laid: one box, bytes of the call's own. -/
structure Ob (w0 wr : World) (g : Nat) (t : TypeId) (cs : Array Value) (v : Value) (l : List UInt8) : Prop where
  bx : Blk wr g t cs
  ow : Own 5 (w0.heap.size + 1) wr v l
  bel : Below w0.heap.size w0 wr
  hg : w0.heap.size ≤ g
  sz : w0.heap.size + 1 ≤ wr.heap.size
section
variable {w0 wr w' : World} {g : Nat} {t : TypeId} {cs : Array Value} {v v' : Value} {l l' : List UInt8}
theorem Ob.call (h : Ob w0 wr g t cs v l) (ho : Own 5 (w0.heap.size + 1) w' v' l') (hb : Below wr.heap.size wr w') : Ob w0 w' g t cs v' l' :=
  ⟨h.bx.below hb h.bx.lt, ho, h.bel.trans (hb.mono h.bel.size), h.hg, Nat.le_trans h.sz hb.size⟩
theorem Ob.drew (h : Ob w0 wr g t cs v l) : Ob w0 wr.drew g t cs v l := ⟨h.bx.drew, h.ow.below (Below.refl _ _).drew, h.bel.drew, h.hg, h.sz⟩
theorem Ob.start (w : World) (t : TypeId) (cs : Array Value) : Ob w (w.alloc (.cells cs t)) w.heap.size t cs (.slice none 0 0) [] :=
  ⟨Blk.new _ _ _, Own.nil _ _ _ _, (Below.refl _ _).alloc (Nat.le_refl _) _, Nat.le_refl _, by simp⟩
end
set_option maxHeartbeats 8000000 in
theorem rlay_any {w : World} {A : Option Addr} {len cap b off : Nat} {xs : List It} (h : Its w A len cap b off xs) (hf : ∀ t ∈ xs, Fine t) (hn : len ≤ 100) (k e tok ver : Int) (card : ByteArray) (idx : Int) (more : Bool)
    (he : e < 9223372036854775808) (ht : tok < 9223372036854775808) (hv : ver < 9223372036854775808) (hc : card.size ≤ 5000) (hi : idx < 9223372036854775808) :
    Calls Try.prog 18 #[.agg #[.int .i64 k, .int .i64 e, .int .i64 tok, .int .i64 ver, .string card, .int .i64 idx, .bool more, .slice A len cap]] w fun r w' => ∃ v, r = .returned v ∧ Own 5 w.heap.size w' v (headB e tok ver card idx more (len : Int) ++ itsB xs) ∧ Below w.heap.size w w' := by
  have HX0 := Lib.hid (Ob.start w 25 #[.int .i64 k, .int .i64 e, .int .i64 tok, .int .i64 ver, .string card, .int .i64 idx, .bool more, .slice A len cap]).drew
  have HM := Lib.hid (bit_any more)
  have h01 : b01 more < 9223372036854775808 := by cases more <;> decide
  have l1 := encz_len e he
  have l2 := encz_len tok ht
  have l3 := encz_len ver hv
  have l4 := enct_len card (by omega)
  have l5 := encz_len idx hi
  have l6 := encz_len (b01 more) h01
  have l7 := encz_len (len : Int) (by omega)
  have HE := Lib.hid (show headB e tok ver card idx more (len : Int) = encz e ++ encz tok ++ encz ver ++ enct card ++ encz idx ++ encz (b01 more) ++ encz (len : Int) from rfl)
  have HI := Lib.hid h
  have HF := Lib.hid hf
  have HH := Lib.hid (And.intro he (And.intro ht (And.intro hv (And.intro hi h01))))
  obtain ⟨m, hm⟩ : ∃ m, b01 more = m := ⟨_, rfl⟩
  obtain ⟨HD, hHD⟩ : ∃ l, headB e tok ver card idx more (len : Int) = l := ⟨_, rfl⟩
  rw [hHD] at HE ⊢
  rw [hm] at HM HE l6 HH
  clear hHD
  clear hm h hf he ht hv hi h01
  have q1 : (w.alloc (.cells #[.int .i64 k, .int .i64 e, .int .i64 tok, .int .i64 ver, .string card, .int .i64 idx, .bool more, .slice A len cap] 25)).drew.cell? ⟨w.heap.size, 1, none⟩ = some (.int .i64 e) := HX0.out.bx.cell 1
  have q2 : (w.alloc (.cells #[.int .i64 k, .int .i64 e, .int .i64 tok, .int .i64 ver, .string card, .int .i64 idx, .bool more, .slice A len cap] 25)).drew.cell? ⟨w.heap.size, 2, none⟩ = some (.int .i64 tok) := HX0.out.bx.cell 2
  have q3 : (w.alloc (.cells #[.int .i64 k, .int .i64 e, .int .i64 tok, .int .i64 ver, .string card, .int .i64 idx, .bool more, .slice A len cap] 25)).drew.cell? ⟨w.heap.size, 3, none⟩ = some (.int .i64 ver) := HX0.out.bx.cell 3
  have q4 : (w.alloc (.cells #[.int .i64 k, .int .i64 e, .int .i64 tok, .int .i64 ver, .string card, .int .i64 idx, .bool more, .slice A len cap] 25)).drew.cell? ⟨w.heap.size, 4, none⟩ = some (.string card) := HX0.out.bx.cell 4
  go_enter Try.func18, Try.ntmps18
  go_wp2_with fail
  go_region_held3 (fun W => W.cell? ⟨w.heap.size, 1, none⟩ = some (.int .i64 e) ∧ W.cell? ⟨w.heap.size, 2, none⟩ = some (.int .i64 tok) ∧ W.cell? ⟨w.heap.size, 3, none⟩ = some (.int .i64 ver) ∧ W.cell? ⟨w.heap.size, 4, none⟩ = some (.string card)) (refine ⟨?_, ?_, ?_, ?_⟩ <;> assumption) (first
    | (go_at_call 39
       (with_reducible refine (rnum_on HX0.out.ow HX0.out.sz (by simp) e HH.out.1).mono ?_)
       rintro _ w1 ⟨r1, rfl, h1, h2⟩
       have HX1 := Lib.hid (HX0.out.call h1 h2)
       have p1 : w1.cell? ⟨w.heap.size, 1, none⟩ = some (.int .i64 e) := HX1.out.bx.cell 1
       have p2 : w1.cell? ⟨w.heap.size, 2, none⟩ = some (.int .i64 tok) := HX1.out.bx.cell 2
       have p3 : w1.cell? ⟨w.heap.size, 3, none⟩ = some (.int .i64 ver) := HX1.out.bx.cell 3
       have p4 : w1.cell? ⟨w.heap.size, 4, none⟩ = some (.string card) := HX1.out.bx.cell 4
       clear h1 h2)
    | (go_at_call 39
       (with_reducible refine (rnum_on HX1.out.ow HX1.out.sz (by simp only [List.length_append, List.length_nil]; omega) tok HH.out.2.1).mono ?_)
       rintro _ w2 ⟨r2, rfl, h1, h2⟩
       have HX2 := Lib.hid (HX1.out.call h1 h2)
       have p1 : w2.cell? ⟨w.heap.size, 1, none⟩ = some (.int .i64 e) := HX2.out.bx.cell 1
       have p2 : w2.cell? ⟨w.heap.size, 2, none⟩ = some (.int .i64 tok) := HX2.out.bx.cell 2
       have p3 : w2.cell? ⟨w.heap.size, 3, none⟩ = some (.int .i64 ver) := HX2.out.bx.cell 3
       have p4 : w2.cell? ⟨w.heap.size, 4, none⟩ = some (.string card) := HX2.out.bx.cell 4
       clear h1 h2)
    | (go_at_call 39
       (with_reducible refine (rnum_on HX2.out.ow HX2.out.sz (by simp only [List.length_append, List.length_nil]; omega) ver HH.out.2.2.1).mono ?_)
       rintro _ w3 ⟨r3, rfl, h1, h2⟩
       have HX3 := Lib.hid (HX2.out.call h1 h2)
       have p1 : w3.cell? ⟨w.heap.size, 1, none⟩ = some (.int .i64 e) := HX3.out.bx.cell 1
       have p2 : w3.cell? ⟨w.heap.size, 2, none⟩ = some (.int .i64 tok) := HX3.out.bx.cell 2
       have p3 : w3.cell? ⟨w.heap.size, 3, none⟩ = some (.int .i64 ver) := HX3.out.bx.cell 3
       have p4 : w3.cell? ⟨w.heap.size, 4, none⟩ = some (.string card) := HX3.out.bx.cell 4
       clear h1 h2)
    | (go_at_call 38
       (with_reducible refine (rtext_on HX3.out.ow HX3.out.sz (by simp only [List.length_append, List.length_nil]; omega) card (by omega)).mono ?_)
       rintro _ w4 ⟨r4, rfl, h1, h2⟩
       have HX4 := Lib.hid (HX3.out.call h1 h2)
       have p1 : w4.cell? ⟨w.heap.size, 1, none⟩ = some (.int .i64 e) := HX4.out.bx.cell 1
       have p2 : w4.cell? ⟨w.heap.size, 2, none⟩ = some (.int .i64 tok) := HX4.out.bx.cell 2
       have p3 : w4.cell? ⟨w.heap.size, 3, none⟩ = some (.int .i64 ver) := HX4.out.bx.cell 3
       have p4 : w4.cell? ⟨w.heap.size, 4, none⟩ = some (.string card) := HX4.out.bx.cell 4
       clear h1 h2))
  have HX5 := Lib.hid HX4.out.drew
  have p5 : (w4.drew).cell? ⟨w.heap.size, 5, none⟩ = some (.int .i64 idx) := HX5.out.bx.cell 5
  have p6 : (w4.drew).cell? ⟨w.heap.size, 6, none⟩ = some (.bool more) := HX5.out.bx.cell 6
  have p7 : (w4.drew).cell? ⟨w.heap.size, 7, none⟩ = some (.slice A len cap) := HX5.out.bx.cell 7
  clear q1 q2 q3 q4
  go_wp2_with fail
  go_region_held3 (fun W => W.cell? ⟨w.heap.size, 5, none⟩ = some (.int .i64 idx) ∧ W.cell? ⟨w.heap.size, 6, none⟩ = some (.bool more) ∧ W.cell? ⟨w.heap.size, 7, none⟩ = some (.slice A len cap)) (refine ⟨?_, ?_, ?_⟩ <;> assumption) (first
    | (go_at_call 39
       (with_reducible refine (rnum_on HX5.out.ow HX5.out.sz (by simp only [List.length_append, List.length_nil]; omega) idx HH.out.2.2.2.1).mono ?_)
       rintro _ w5 ⟨r5, rfl, h1, h2⟩
       have HX6 := Lib.hid (HX5.out.call h1 h2)
       have p5 : (w5).cell? ⟨w.heap.size, 5, none⟩ = some (.int .i64 idx) := HX6.out.bx.cell 5
       have p6 : (w5).cell? ⟨w.heap.size, 6, none⟩ = some (.bool more) := HX6.out.bx.cell 6
       have p7 : (w5).cell? ⟨w.heap.size, 7, none⟩ = some (.slice A len cap) := HX6.out.bx.cell 7
       clear h1 h2)
    | (go_at_call 40
       (with_reducible refine (HM.out _).mono ?_)
       rintro _ z1 ⟨rfl, hz⟩
       replace hz := hz.symm
       subst hz)
    | (go_at_call 39
       (with_reducible refine (rnum_on HX6.out.ow HX6.out.sz (by simp only [List.length_append, List.length_nil]; omega) m HH.out.2.2.2.2).mono ?_)
       rintro _ w6 ⟨r6, rfl, h1, h2⟩
       have HX7 := Lib.hid (HX6.out.call h1 h2)
       have p5 : (w6).cell? ⟨w.heap.size, 5, none⟩ = some (.int .i64 idx) := HX7.out.bx.cell 5
       have p6 : (w6).cell? ⟨w.heap.size, 6, none⟩ = some (.bool more) := HX7.out.bx.cell 6
       have p7 : (w6).cell? ⟨w.heap.size, 7, none⟩ = some (.slice A len cap) := HX7.out.bx.cell 7
       clear h1 h2)
    | (go_at_call 39
       (with_reducible refine (rnum_on HX7.out.ow HX7.out.sz (by simp only [List.length_append, List.length_nil]; omega) (len : Int) (by omega)).mono ?_)
       rintro _ w7 ⟨r7, rfl, h1, h2⟩
       have HX8 := Lib.hid (HX7.out.call h1 h2)
       have p5 : (w7).cell? ⟨w.heap.size, 5, none⟩ = some (.int .i64 idx) := HX8.out.bx.cell 5
       have p6 : (w7).cell? ⟨w.heap.size, 6, none⟩ = some (.bool more) := HX8.out.bx.cell 6
       have p7 : (w7).cell? ⟨w.heap.size, 7, none⟩ = some (.slice A len cap) := HX8.out.bx.cell 7
       clear h1 h2))
  all_goals (
    have HO := Lib.hid (show Ob w w7 w.heap.size 25 #[.int .i64 k, .int .i64 e, .int .i64 tok, .int .i64 ver, .string card, .int .i64 idx, .bool more, .slice A len cap] r7 HD from ⟨HX8.out.bx, by have := HX8.out.ow; rw [HE.out]; simpa using this, HX8.out.bel, HX8.out.hg, HX8.out.sz⟩)
    have HHL := Lib.hid (show HD.length ≤ 5100 by rw [HE.out]; simp only [List.length_append]; omega)
    have hlc := HI.out.le
    clear HE HX1 HX2 HX3 HX4 HX5 HX6 HX7 HX8 l1 l2 l3 l4 l5 l6 l7 hc HM HH
    go_wp2_with fail
    go_loopw [3, 4] (fun u i wr => ∃ q : Nat, q ≤ len ∧ i = .int .i64 (q : Int) ∧ Ob w wr w.heap.size 25 #[.int .i64 k, .int .i64 e, .int .i64 tok, .int .i64 ver, .string card, .int .i64 idx, .bool more, .slice A len cap] u (HD ++ itsB (xs.take q))) (fun _ i _ => len - (intOf i).toNat)
    case atStart => exact ⟨0, Nat.zero_le _, rfl, by simpa [itsB] using HO.out⟩
    case round =>
      obtain ⟨q, hq, rfl, hO⟩ := hrel
      have HOR := Lib.hid hO
      have x7 := hO.bx.cell 7
      clear hO
      by_cases hql : q < len
      · obtain ⟨t, ht⟩ : ∃ t, xs[q]? = some t := ⟨xs[q]'(by rw [HI.out.hlen]; exact hql), List.getElem?_eq_getElem _⟩
        obtain ⟨rfl, hbl⟩ := HI.out.addr (by omega)
        obtain ⟨c0, c1, c2, c3⟩ := (HI.out.below HOR.out.bel (fun _ => hbl)).cell q t ht
        have HFT := Lib.hid (HF.out t (List.mem_of_getElem? ht))
        have HSN := Lib.hid (itsB_snoc xs q t ht)
        have HLL := Lib.hid (show (HD ++ itsB (xs.take q)).length ≤ 590000 by
          have h1 := itsB_len (xs.take q) (fun s hs => HF.out s (List.mem_of_mem_take hs))
          have h2 := HHL.out
          rw [List.length_take] at h1
          rw [List.length_append]
          omega)
        have hqI : (q : Int) < (len : Int) := by omega
        obtain ⟨tu, tv, tx, tc⟩ := t
        simp only at c0 c1 c2 c3
        clear ht
        go_wp2_with fail
        have HM := Lib.hid (bit_any tx)
        have e1 := enct_len tu (Nat.le_trans (show tu.size ≤ 100 from HFT.out.u) (by decide))
        have e2 := encz_len tv HFT.out.v
        have e3 := encz_len (b01 tx) (by cases tx <;> decide)
        have e4 := enct_len tc (Nat.le_trans (show tc.size ≤ 5000 from HFT.out.c) (by decide))
        have e5 : tu.size ≤ 100 := HFT.out.u
        have e6 : tc.size ≤ 5000 := HFT.out.c
        have HV := Lib.hid (show tv < 9223372036854775808 ∧ b01 tx < 9223372036854775808 from ⟨HFT.out.v, by cases tx <;> decide⟩)
        have HSE := Lib.hid (show itB ⟨tu, tv, tx, tc⟩ = enct tu ++ encz tv ++ encz (b01 tx) ++ enct tc from rfl)
        obtain ⟨m, hm⟩ : ∃ m, b01 tx = m := ⟨_, rfl⟩
        rw [hm] at HM HV HSE e3
        clear hm
        have hal : Below wr.heap.size wr (wr.alloc (.cells #[.string tu, .int .i64 tv, .bool tx, .string tc] 39)).drew := ((Below.refl _ _).alloc (Nat.le_refl _) _).drew
        have HY0 := Lib.hid (show Ob w (wr.alloc (.cells #[.string tu, .int .i64 tv, .bool tx, .string tc] 39)).drew wr.heap.size 39 #[.string tu, .int .i64 tv, .bool tx, .string tc] _ (HD ++ itsB (xs.take q)) from ⟨(Blk.new _ _ _).drew, HOR.out.ow.below hal, HOR.out.bel.trans (hal.mono HOR.out.bel.size), HOR.out.bel.size, Nat.le_trans HOR.out.sz hal.size⟩)
        have HB0 := Lib.hid (HOR.out.bx.below hal HOR.out.bx.lt)
        clear hal
        have p0 : ((wr.alloc (.cells #[.string tu, .int .i64 tv, .bool tx, .string tc] 39)).drew).cell? ⟨wr.heap.size, 0, none⟩ = some (.string tu) := HY0.out.bx.cell 0
        have p1 : ((wr.alloc (.cells #[.string tu, .int .i64 tv, .bool tx, .string tc] 39)).drew).cell? ⟨wr.heap.size, 1, none⟩ = some (.int .i64 tv) := HY0.out.bx.cell 1
        have p2 : ((wr.alloc (.cells #[.string tu, .int .i64 tv, .bool tx, .string tc] 39)).drew).cell? ⟨wr.heap.size, 2, none⟩ = some (.bool tx) := HY0.out.bx.cell 2
        have p3 : ((wr.alloc (.cells #[.string tu, .int .i64 tv, .bool tx, .string tc] 39)).drew).cell? ⟨wr.heap.size, 3, none⟩ = some (.string tc) := HY0.out.bx.cell 3
        go_region_held3 (fun W => W.cell? ⟨wr.heap.size, 0, none⟩ = some (.string tu) ∧ W.cell? ⟨wr.heap.size, 1, none⟩ = some (.int .i64 tv) ∧ W.cell? ⟨wr.heap.size, 2, none⟩ = some (.bool tx) ∧ W.cell? ⟨wr.heap.size, 3, none⟩ = some (.string tc)) (refine ⟨?_, ?_, ?_, ?_⟩ <;> assumption) (first
          | (go_at_call 38
             (with_reducible refine (rtext_on HY0.out.ow HY0.out.sz (by simp only [List.length_append]; have := HLL.out; rw [List.length_append] at this; omega) tu (by omega)).mono ?_)
             rintro _ w1 ⟨r1, rfl, h1, h2⟩
             have HY1 := Lib.hid (HY0.out.call h1 h2)
             have HB1 := Lib.hid (HB0.out.below h2 HB0.out.lt)
             have p0 : (w1).cell? ⟨wr.heap.size, 0, none⟩ = some (.string tu) := HY1.out.bx.cell 0
             have p1 : (w1).cell? ⟨wr.heap.size, 1, none⟩ = some (.int .i64 tv) := HY1.out.bx.cell 1
             have p2 : (w1).cell? ⟨wr.heap.size, 2, none⟩ = some (.bool tx) := HY1.out.bx.cell 2
             have p3 : (w1).cell? ⟨wr.heap.size, 3, none⟩ = some (.string tc) := HY1.out.bx.cell 3
             clear h1 h2)
          | (go_at_call 39
             (with_reducible refine (rnum_on HY1.out.ow HY1.out.sz (by simp only [List.length_append]; have := HLL.out; rw [List.length_append] at this; omega) tv HV.out.1).mono ?_)
             rintro _ w2 ⟨r2, rfl, h1, h2⟩
             have HY2 := Lib.hid (HY1.out.call h1 h2)
             have HB2 := Lib.hid (HB1.out.below h2 HB1.out.lt)
             have p0 : (w2).cell? ⟨wr.heap.size, 0, none⟩ = some (.string tu) := HY2.out.bx.cell 0
             have p1 : (w2).cell? ⟨wr.heap.size, 1, none⟩ = some (.int .i64 tv) := HY2.out.bx.cell 1
             have p2 : (w2).cell? ⟨wr.heap.size, 2, none⟩ = some (.bool tx) := HY2.out.bx.cell 2
             have p3 : (w2).cell? ⟨wr.heap.size, 3, none⟩ = some (.string tc) := HY2.out.bx.cell 3
             clear h1 h2)
          | (go_at_call 40
             (with_reducible refine (HM.out _).mono ?_)
             rintro _ z1 ⟨rfl, hz⟩
             replace hz := hz.symm
             subst hz)
          | (go_at_call 39
             (with_reducible refine (rnum_on HY2.out.ow HY2.out.sz (by simp only [List.length_append]; have := HLL.out; rw [List.length_append] at this; omega) m HV.out.2).mono ?_)
             rintro _ w3 ⟨r3, rfl, h1, h2⟩
             have HY3 := Lib.hid (HY2.out.call h1 h2)
             have HB3 := Lib.hid (HB2.out.below h2 HB2.out.lt)
             have p0 : (w3).cell? ⟨wr.heap.size, 0, none⟩ = some (.string tu) := HY3.out.bx.cell 0
             have p1 : (w3).cell? ⟨wr.heap.size, 1, none⟩ = some (.int .i64 tv) := HY3.out.bx.cell 1
             have p2 : (w3).cell? ⟨wr.heap.size, 2, none⟩ = some (.bool tx) := HY3.out.bx.cell 2
             have p3 : (w3).cell? ⟨wr.heap.size, 3, none⟩ = some (.string tc) := HY3.out.bx.cell 3
             clear h1 h2)
          | (go_at_call 38
             (with_reducible refine (rtext_on HY3.out.ow HY3.out.sz (by simp only [List.length_append]; have := HLL.out; rw [List.length_append] at this; omega) tc (by omega)).mono ?_)
             rintro _ w4 ⟨r4, rfl, h1, h2⟩
             have HY4 := Lib.hid (HY3.out.call h1 h2)
             have HB4 := Lib.hid (HB3.out.below h2 HB3.out.lt)
             have p0 : (w4).cell? ⟨wr.heap.size, 0, none⟩ = some (.string tu) := HY4.out.bx.cell 0
             have p1 : (w4).cell? ⟨wr.heap.size, 1, none⟩ = some (.int .i64 tv) := HY4.out.bx.cell 1
             have p2 : (w4).cell? ⟨wr.heap.size, 2, none⟩ = some (.bool tx) := HY4.out.bx.cell 2
             have p3 : (w4).cell? ⟨wr.heap.size, 3, none⟩ = some (.string tc) := HY4.out.bx.cell 3
             clear h1 h2))
        all_goals (
          have HZ := Lib.hid (show Ob w w4 w.heap.size 25 #[.int .i64 k, .int .i64 e, .int .i64 tok, .int .i64 ver, .string card, .int .i64 idx, .bool more, .slice (some ⟨b, off, none⟩) len cap] r4 (HD ++ itsB (xs.take (q + 1))) from ⟨HB4.out, by have := HY4.out.ow; rw [HSN.out, HSE.out]; simpa using this, HY4.out.bel, Nat.le_refl _, HY4.out.sz⟩)
          clear HY0 HY1 HY2 HY3 HY4 HB0 HB1 HB2 HB3 HB4 HSN HSE
          go_wp2
          go_roundw
          case rel => exact ⟨q + 1, by omega, by go_num, HZ.out⟩
          case measure => simp [intOf]; omega)
      · obtain rfl : q = len := by omega
        go_wp2
        go_ret
        refine ⟨_, rfl, ?_, HOR.out.bel⟩
        have := HOR.out.ow
        rw [List.take_of_length_le (by rw [HI.out.hlen]; omega)] at this
        exact this.mono (by omega))
end Go.Proofs.Ytdoldjfabgcgbaa
