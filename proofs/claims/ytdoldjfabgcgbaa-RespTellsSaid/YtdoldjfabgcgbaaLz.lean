/- Answers laid in bytes: the whole. -/
import Derived.Test.YtdoldjfabgcgbaaLy
import Derived.Test.YtdoldjfabgcgbaaApp2
namespace Go.Proofs.Ytdoldjfabgcgbaa
open Go.RowKit
set_option linter.unusedVariables false
set_option linter.unusedSimpArgs false
set_option maxRecDepth 20000
structure It where
  u : ByteArray
  v : Int
  x : Bool
  c : ByteArray
/-- Items that lie in memory, four cells each. -/
structure Its (w : World) (A : Option Addr) (len cap b off : Nat) (xs : List It) : Prop where
  hlen : xs.length = len
  le : len ≤ cap
  addr : 0 < len → A = some ⟨b, off, none⟩ ∧ b < w.heap.size
  cell : ∀ (j : Nat) (t : It), xs[j]? = some t → w.cell? ⟨b, off + j * 4, none⟩ = some (.string t.u) ∧ w.cell? ⟨b, off + j * 4 + 1, none⟩ = some (.int .i64 t.v) ∧ w.cell? ⟨b, off + j * 4 + 2, none⟩ = some (.bool t.x) ∧ w.cell? ⟨b, off + j * 4 + 3, none⟩ = some (.string t.c)
theorem Its.below {w w' : World} {A : Option Addr} {len cap b off B : Nat} {xs : List It} (h : Its w A len cap b off xs) (hb : Below B w w') (hB : 0 < len → b < B) : Its w' A len cap b off xs :=
  ⟨h.hlen, h.le, fun hl => ⟨(h.addr hl).1, Nat.lt_of_lt_of_le (h.addr hl).2 hb.size⟩, fun j t hj => by
    have hlt : j < xs.length := (List.getElem?_eq_some_iff.1 hj).1
    have hbb := hB (by have := h.hlen; omega)
    obtain ⟨h1, h2, h3, h4⟩ := h.cell j t hj
    exact ⟨by rw [hb.cell (p := ⟨b, _, none⟩) hbb]; exact h1, by rw [hb.cell (p := ⟨b, _, none⟩) hbb]; exact h2, by rw [hb.cell (p := ⟨b, _, none⟩) hbb]; exact h3, by rw [hb.cell (p := ⟨b, _, none⟩) hbb]; exact h4⟩⟩
def itB (t : It) : List UInt8 := encI t.u t.v t.x t.c
def itsB (xs : List It) : List UInt8 := (xs.map itB).flatten
structure Fine (t : It) : Prop where
  u : t.u.size ≤ 100
  v : t.v < 9223372036854775808
  c : t.c.size ≤ 5000
theorem itB_len {t : It} (h : Fine t) : (itB t).length ≤ 5136 := by
  have l1 := enct_len t.u (by have := h.u; omega)
  have l2 := encz_len t.v h.v
  have l3 := encz_len (b01 t.x) (by cases t.x <;> decide)
  have l4 := enct_len t.c (by have := h.c; omega)
  have := h.u
  have := h.c
  unfold itB encI
  simp only [List.length_append]
  omega
theorem itsB_len : ∀ (xs : List It), (∀ t ∈ xs, Fine t) → (itsB xs).length ≤ 5136 * xs.length
  | [], _ => by simp [itsB]
  | t :: xs, h => by
    have h1 := itB_len (h t List.mem_cons_self)
    have h2 := itsB_len xs (fun s hs => h s (List.mem_cons_of_mem _ hs))
    unfold itsB at *
    simp only [List.map_cons, List.flatten_cons, List.length_append, List.length_cons]
    omega
theorem itsB_snoc (xs : List It) (k : Nat) (t : It) (h : xs[k]? = some t) : itsB (xs.take (k + 1)) = itsB (xs.take k) ++ itB t := by
  unfold itsB
  rw [List.take_add_one, h]
  simp
def headB (e tok ver : Int) (card : ByteArray) (idx : Int) (more : Bool) (len : Int) : List UInt8 := encz e ++ encz tok ++ encz ver ++ enct card ++ encz idx ++ encz (b01 more) ++ encz len
set_option maxHeartbeats 8000000 in
theorem lay_any {w : World} {A : Option Addr} {len cap b off : Nat} {xs : List It} (h : Its w A len cap b off xs) (hf : ∀ t ∈ xs, Fine t) (hn : len ≤ 100) (k e tok ver : Int) (card : ByteArray) (idx : Int) (more : Bool)
    (he : e < 9223372036854775808) (ht : tok < 9223372036854775808) (hv : ver < 9223372036854775808) (hc : card.size ≤ 5000) (hi : idx < 9223372036854775808) :
    Calls Try.prog 17 #[.agg #[.int .i64 k, .int .i64 e, .int .i64 tok, .int .i64 ver, .string card, .int .i64 idx, .bool more, .slice A len cap]] w fun r w' => ∃ v, r = .returned v ∧ Own 5 w.heap.size w' v (headB e tok ver card idx more (len : Int) ++ itsB xs) ∧ Below w.heap.size w w' := by
  have HX0 := Lib.hid ((Bxs.start w).new 25 #[.int .i64 k, .int .i64 e, .int .i64 tok, .int .i64 ver, .string card, .int .i64 idx, .bool more, .slice A len cap])
  have HM := Lib.hid (mark_any more)
  have h01 : b01 more < 9223372036854775808 := by cases more <;> decide
  have l1 := encz_len e he
  have l2 := encz_len tok ht
  have l3 := encz_len ver hv
  have l4 := enct_len card (by omega)
  have l5 := encz_len idx hi
  have l6 := encz_len (b01 more) h01
  have l7 := encz_len (len : Int) (by omega)
  have HE := Lib.hid (show headB e tok ver card idx more (len : Int) = encz e ++ encz tok ++ encz ver ++ enct card ++ encz idx ++ encz (b01 more) ++ encz (len : Int) from rfl)
  have HI := Lib.hid h
  have HF := Lib.hid hf
  have H1 := Lib.hid he
  have H2 := Lib.hid ht
  have H3 := Lib.hid hv
  have H5 := Lib.hid hi
  have H6 := Lib.hid h01
  obtain ⟨m, hm⟩ : ∃ m, b01 more = m := ⟨_, rfl⟩
  obtain ⟨HD, hHD⟩ : ∃ l, headB e tok ver card idx more (len : Int) = l := ⟨_, rfl⟩
  rw [hHD] at HE ⊢
  rw [hm] at HM HE l6 H6
  clear hHD
  clear hm h hf he ht hv hi h01
  obtain ⟨i0, hi, hz0, hz1, hz2⟩ := info_parts info5
  go_enter Try.func17, Try.ntmps17
  go_wp2_with fail
  refine (num_on (Own.nil 5 (w.heap.size + 1) _ none) (by simp) (by simp) e H1.out).mono ?_
  rintro _ w1 ⟨r1, rfl, h1, h2⟩
  have HX1 := Lib.hid (HX0.out.step h2)
  have HO1 := Lib.hid h1
  have hl1 := (HX1.out.get 0 rfl).lt
  have HS1 := Lib.hid (show w.heap.size + 1 ≤ w1.heap.size by omega)
  clear hl1
  have a1_0 := (HX1.out.get 0 rfl).cell 0
  have a1_1 := (HX1.out.get 0 rfl).cell 1
  have a1_2 := (HX1.out.get 0 rfl).cell 2
  have a1_3 := (HX1.out.get 0 rfl).cell 3
  have a1_4 := (HX1.out.get 0 rfl).cell 4
  have a1_5 := (HX1.out.get 0 rfl).cell 5
  have a1_6 := (HX1.out.get 0 rfl).cell 6
  have a1_7 := (HX1.out.get 0 rfl).cell 7
  clear h1 h2
  go_wp2_with fail
  refine (num_on HO1.out HS1.out (by simp only [List.length_append, List.length_nil]; omega) tok H2.out).mono ?_
  rintro _ w2 ⟨r2, rfl, h1, h2⟩
  have HX2 := Lib.hid (HX1.out.step h2)
  have HO2 := Lib.hid h1
  have hl2 := (HX2.out.get 0 rfl).lt
  have HS2 := Lib.hid (show w.heap.size + 1 ≤ w2.heap.size by omega)
  clear hl2
  have a2_0 := (HX2.out.get 0 rfl).cell 0
  have a2_1 := (HX2.out.get 0 rfl).cell 1
  have a2_2 := (HX2.out.get 0 rfl).cell 2
  have a2_3 := (HX2.out.get 0 rfl).cell 3
  have a2_4 := (HX2.out.get 0 rfl).cell 4
  have a2_5 := (HX2.out.get 0 rfl).cell 5
  have a2_6 := (HX2.out.get 0 rfl).cell 6
  have a2_7 := (HX2.out.get 0 rfl).cell 7
  clear h1 h2
  go_wp2_with fail
  refine (num_on HO2.out HS2.out (by simp only [List.length_append, List.length_nil]; omega) ver H3.out).mono ?_
  rintro _ w3 ⟨r3, rfl, h1, h2⟩
  have HX3 := Lib.hid (HX2.out.step h2)
  have HO3 := Lib.hid h1
  have hl3 := (HX3.out.get 0 rfl).lt
  have HS3 := Lib.hid (show w.heap.size + 1 ≤ w3.heap.size by omega)
  clear hl3
  have a3_0 := (HX3.out.get 0 rfl).cell 0
  have a3_1 := (HX3.out.get 0 rfl).cell 1
  have a3_2 := (HX3.out.get 0 rfl).cell 2
  have a3_3 := (HX3.out.get 0 rfl).cell 3
  have a3_4 := (HX3.out.get 0 rfl).cell 4
  have a3_5 := (HX3.out.get 0 rfl).cell 5
  have a3_6 := (HX3.out.get 0 rfl).cell 6
  have a3_7 := (HX3.out.get 0 rfl).cell 7
  clear h1 h2
  go_wp2_with fail
  refine (text_on HO3.out HS3.out (by simp only [List.length_append, List.length_nil]; omega) card (by omega)).mono ?_
  rintro _ w4 ⟨r4, rfl, h1, h2⟩
  have HX4 := Lib.hid (HX3.out.step h2)
  have HO4 := Lib.hid h1
  have hl4 := (HX4.out.get 0 rfl).lt
  have HS4 := Lib.hid (show w.heap.size + 1 ≤ w4.heap.size by omega)
  clear hl4
  have a4_0 := (HX4.out.get 0 rfl).cell 0
  have a4_1 := (HX4.out.get 0 rfl).cell 1
  have a4_2 := (HX4.out.get 0 rfl).cell 2
  have a4_3 := (HX4.out.get 0 rfl).cell 3
  have a4_4 := (HX4.out.get 0 rfl).cell 4
  have a4_5 := (HX4.out.get 0 rfl).cell 5
  have a4_6 := (HX4.out.get 0 rfl).cell 6
  have a4_7 := (HX4.out.get 0 rfl).cell 7
  clear h1 h2
  go_wp2_with fail
  refine (num_on HO4.out HS4.out (by simp only [List.length_append, List.length_nil]; omega) idx H5.out).mono ?_
  rintro _ w5 ⟨r5, rfl, h1, h2⟩
  have HX5 := Lib.hid (HX4.out.step h2)
  have HO5 := Lib.hid h1
  have hl5 := (HX5.out.get 0 rfl).lt
  have HS5 := Lib.hid (show w.heap.size + 1 ≤ w5.heap.size by omega)
  clear hl5
  have a5_0 := (HX5.out.get 0 rfl).cell 0
  have a5_1 := (HX5.out.get 0 rfl).cell 1
  have a5_2 := (HX5.out.get 0 rfl).cell 2
  have a5_3 := (HX5.out.get 0 rfl).cell 3
  have a5_4 := (HX5.out.get 0 rfl).cell 4
  have a5_5 := (HX5.out.get 0 rfl).cell 5
  have a5_6 := (HX5.out.get 0 rfl).cell 6
  have a5_7 := (HX5.out.get 0 rfl).cell 7
  clear h1 h2
  go_wp2_with fail
  refine (HM.out _).mono ?_
  rintro _ x1 ⟨rfl, hw⟩
  replace hw := hw.symm
  subst hw
  go_wp2_with fail
  refine (num_on HO5.out HS5.out (by simp only [List.length_append, List.length_nil]; omega) m H6.out).mono ?_
  rintro _ w6 ⟨r6, rfl, h1, h2⟩
  have HX6 := Lib.hid (HX5.out.step h2)
  have HO6 := Lib.hid h1
  have hl6 := (HX6.out.get 0 rfl).lt
  have HS6 := Lib.hid (show w.heap.size + 1 ≤ w6.heap.size by omega)
  clear hl6
  have a6_0 := (HX6.out.get 0 rfl).cell 0
  have a6_1 := (HX6.out.get 0 rfl).cell 1
  have a6_2 := (HX6.out.get 0 rfl).cell 2
  have a6_3 := (HX6.out.get 0 rfl).cell 3
  have a6_4 := (HX6.out.get 0 rfl).cell 4
  have a6_5 := (HX6.out.get 0 rfl).cell 5
  have a6_6 := (HX6.out.get 0 rfl).cell 6
  have a6_7 := (HX6.out.get 0 rfl).cell 7
  clear h1 h2
  go_wp2_with fail
  refine (num_on HO6.out HS6.out (by simp only [List.length_append, List.length_nil]; omega) (len : Int) (by omega)).mono ?_
  rintro _ w7 ⟨r7, rfl, h1, h2⟩
  have HX7 := Lib.hid (HX6.out.step h2)
  have HO7 := Lib.hid h1
  have hl7 := (HX7.out.get 0 rfl).lt
  have HS7 := Lib.hid (show w.heap.size + 1 ≤ w7.heap.size by omega)
  clear hl7
  have a7_0 := (HX7.out.get 0 rfl).cell 0
  have a7_1 := (HX7.out.get 0 rfl).cell 1
  have a7_2 := (HX7.out.get 0 rfl).cell 2
  have a7_3 := (HX7.out.get 0 rfl).cell 3
  have a7_4 := (HX7.out.get 0 rfl).cell 4
  have a7_5 := (HX7.out.get 0 rfl).cell 5
  have a7_6 := (HX7.out.get 0 rfl).cell 6
  have a7_7 := (HX7.out.get 0 rfl).cell 7
  clear h1 h2
  have HB7 := Lib.hid (show Below w.heap.size w w7 from HX7.out.bel)
  have HO := Lib.hid (show Own 5 (w.heap.size + 1) w7 r7 HD from by have := HO7.out; rw [HE.out]; simpa using this)
  have HHL := Lib.hid (show HD.length ≤ 5100 by rw [HE.out]; simp only [List.length_append]; omega)
  have hlc := HI.out.le
  have a7_7' := a7_7
  clear HE HO1 HO2 HO3 HO4 HO5 HO6 HO7 l1 l2 l3 l4 l5 l6 l7 hc
  go_wp2_with fail
  go_loopw [3, 38] (fun u i wr => ∃ q : Nat, q ≤ len ∧ i = .int .i64 (q : Int) ∧ Own 5 (w.heap.size + 1) wr u (HD ++ itsB (xs.take q)) ∧ w.heap.size + 1 ≤ wr.heap.size ∧ Below w.heap.size w wr) (fun _ i _ => len - (intOf i).toNat)
  case atStart => exact ⟨0, Nat.zero_le _, rfl, by simpa [itsB] using HO.out, HS7.out, HB7.out⟩
  case round =>
    obtain ⟨q, hq, rfl, hO, hwr, hB⟩ := hrel
    have HOR := Lib.hid hO
    have HBR := Lib.hid hB
    clear hO hB
    by_cases hql : q < len
    · obtain ⟨t, ht⟩ : ∃ t, xs[q]? = some t := ⟨xs[q]'(by rw [HI.out.hlen]; exact hql), List.getElem?_eq_getElem _⟩
      obtain ⟨rfl, hbl⟩ := HI.out.addr (by omega)
      obtain ⟨c0, c1, c2, c3⟩ := (HI.out.below HBR.out (fun _ => hbl)).cell q t ht
      have HFT := Lib.hid (HF.out t (List.mem_of_getElem? ht))
      have HSN := Lib.hid (itsB_snoc xs q t ht)
      have HLL := Lib.hid (show (HD ++ itsB (xs.take q)).length ≤ 600000 by
        have h1 := itsB_len (xs.take q) (fun s hs => HF.out s (List.mem_of_mem_take hs))
        have h2 := HHL.out
        rw [List.length_take] at h1
        rw [List.length_append]
        omega)
      have HIL := Lib.hid (itB_len HFT.out)
      have hqI : (q : Int) < (len : Int) := by omega
      have HLI := Lib.hid (fun W => layItem_any t.u t.v t.x t.c (by have := HFT.out.u; omega) HFT.out.v (by have := HFT.out.c; omega) W)
      obtain ⟨tu, tv, tx, tc⟩ := t
      simp only at c0 c1 c2 c3 HLI
      clear ht
      go_wp2_with fail
      refine (HLI.out _).mono ?_
      rintro _ w8 ⟨r8, rfl, h1, h2⟩
      obtain ⟨A8, cap8, b8, rfl, hb8⟩ := h1.byt
      have HB8 := Lib.hid hb8
      have hw8 := h2.size
      rw [World.size_alloc] at hw8
      have HW8 := Lib.hid (show Below (w.heap.size + 1) wr w8 from ((Below.refl (w.heap.size + 1) wr).alloc hwr _).trans (h2.mono (by rw [World.size_alloc]; omega)))
      have HW8b := Lib.hid (show Below w.heap.size w w8 from HBR.out.trans (HW8.out.mono (by omega)))
      have HOR8 := Lib.hid (show Own 5 (w.heap.size + 1) w8 _ (HD ++ itsB (xs.take q)) from HOR.out.below (((Below.refl wr.heap.size wr).alloc (Nat.le_refl _) _).trans (h2.mono (by rw [World.size_alloc]; omega))))
      clear h1 h2 hb8
      go_wp2_with (
        at_builtin
        refine wpList_own_append (e := 5) (t := 26) (tx := 26) (z := .int .u8 0) (i := i0) (B := w.heap.size + 1) (l := HD ++ itsB (xs.take q)) _ rfl (.tmp 42) (.tmp 44) rfl Try.underlying26 hi hz0 hz1 hz2 rfl rfl HOR8.out ?hB1 (.slice A8 (encI tu tv tx tc).length cap8) rfl (encI tu tv tx tc) HB8.out.srcs ?h63_1 ?hK1
        case hB1 => omega
        case h63_1 => (have := HLL.out; have h9 : (encI tu tv tx tc).length ≤ 5136 := HIL.out; omega)
        intro v9 w9 h1 h2
        have HO9 := Lib.hid h1
        have hw9 : w.heap.size + 1 ≤ w9.heap.size := by have := h2.size; omega
        have HB9 := Lib.hid (HW8b.out.trans (h2.mono (by omega)))
        clear h1 h2)
      go_roundw
      case rel => exact ⟨q + 1, by omega, by go_num, by rw [HSN.out, ← List.append_assoc]; exact HO9.out, hw9, HB9.out⟩
      case measure => simp [intOf]; omega
    · obtain rfl : q = len := by omega
      go_wp2
      go_ret
      refine ⟨_, rfl, ?_, HBR.out⟩
      have := HOR.out
      rw [List.take_of_length_le (by rw [HI.out.hlen]; omega)] at this
      exact this.mono (by omega)
end Go.Proofs.Ytdoldjfabgcgbaa
