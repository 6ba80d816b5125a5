/- RespItems: how many items may be. -/
import Derived.Test.YtdoldjfabgcgbaaWx
namespace Go.Proofs.Ytdoldjfabgcgbaa
open Go.RowKit
open Go.Lib hiding intOf
set_option linter.unusedVariables false
set_option linter.unusedSimpArgs false
set_option maxRecDepth 20000
/-- An answer that grows: its box, its items. -/
structure Rk (w0 wr : World) (X : Nat) (k : Int) (v : Value) (xs : List It) : Prop where
  bx : Blk wr X 25 #[.int .i64 k, .int .i64 0, .int .i64 0, .int .i64 0, .string ⟨#[]⟩, .int .i64 0, .bool false, v]
  ow : wr.ownsRow (X + 1) 39 4 v xs.length (itsC xs)
  bel : Below w0.heap.size w0 wr
  hX : w0.heap.size ≤ X
section
variable {w0 wr w' : World} {X : Nat} {k : Int} {v : Value} {xs : List It}
theorem Rk.ne (h : Rk w0 wr X k v xs) : some X ≠ v.ownBlock := fun e => by
  have := (h.ow.lt X e.symm).1
  omega
theorem Rk.step (h : Rk w0 wr X k v xs) {o : Obj} {v' : Value} {t : It} (hg : (wr.alloc o).grownBy w' v.ownBlock) (h1 : w'.ownsRow (X + 1) 39 4 v' (xs.length + 1) (itsC xs ++ itC t)) : Blk w' X 25 #[.int .i64 k, .int .i64 0, .int .i64 0, .int .i64 0, .string ⟨#[]⟩, .int .i64 0, .bool false, v] ∧ Rk w0 (w'.setCell ⟨X, 7, none⟩ v') X k v' (xs ++ [t]) := by
  have hb : Below wr.heap.size wr (wr.alloc o) := (Below.refl _ _).alloc (Nat.le_refl _) _
  have b1 := (h.bx.below hb h.bx.lt).grown hg h.ne
  have hX := h.hX
  refine ⟨b1, b1.set_ 7 v', ?_, ?_, hX⟩
  · rw [itsC_snoc, List.length_append]
    obtain ⟨g0, ⟨g3, g4⟩ | ⟨b, cap, cur, e1, e2, e3, e4⟩⟩ := h1
    · exact ⟨g0, .inl ⟨g3, g4⟩⟩
    · exact ⟨g0, .inr ⟨b, cap, cur, e1, e2, (Below.heap_setCell w' ⟨X, 7, none⟩ v' b (by show b ≠ X; omega)).trans e3, e4⟩⟩
  · have hb2 : Below w0.heap.size w0 (wr.alloc o) := h.bel.alloc h.bel.size _
    have hb3 : Below w0.heap.size w0 w' := ⟨hg.os.trans hb2.os, hg.tape.trans hb2.tape, hg.output.trans hb2.output, Nat.le_trans hb2.size hg.size, fun j hj => (hg.block j (Nat.lt_of_lt_of_le hj hb2.size) (fun e => by have := (h.ow.lt j e.symm).1; omega)).trans (hb2.block j hj)⟩
    exact hb3.setCell (p := ⟨X, 7, none⟩) hX v'
theorem Rk.below (h : Rk w0 wr X k v xs) (hb : Below wr.heap.size wr w') : Rk w0 w' X k v xs :=
  ⟨h.bx.below hb h.bx.lt, own_tw h.ow (Tw2.ofBelow (G := 0) (g := 0) hb) (by omega) (by omega), h.bel.trans (hb.mono h.bel.size), h.hX⟩
end
theorem Rk.ne2 {w0 wr : World} {X : Nat} {k : Int} {v : Value} {xs : List It} {Y : Nat} {cs : Array Value} (h : Rk w0 wr X k v xs) (hb : Blk wr Y 25 cs) : some Y ≠ v.ownBlock := fun e => by
  obtain ⟨_, ⟨rfl, _⟩ | ⟨b, cap, cur, rfl, _, e3, _⟩⟩ := h.ow
  · cases e
  · have : Y = b := Option.some.inj e
    subst this
    have hb' : wr.heap[Y]? = some (.cells cs 25 (0, 0)) := hb
    rw [hb'] at e3
    cases e3
def lenOf : Option Value → Nat
  | some (.slice _ n _) => n
  | _ => 0
theorem row_succ {w : World} {base : Nat} {e : TypeId} {size : Nat} {v : Value} {n : Nat} {xs : List Value} (h : w.ownsRow base e size v (n + 1) xs) : ∃ g cap, v = .slice (some ⟨g, 0, none⟩) (n + 1) cap := by
  obtain ⟨_, ⟨_, h2⟩ | ⟨g, cap, cur, e1, _⟩⟩ := h
  · cases h2
  · exact ⟨g, cap, e1⟩
theorem zeros_byt {w : World} {base g : Nat} (h : w.ownsRow base 5 1 (.slice (some ⟨g, 0, none⟩) 900 900) 900 (madeCells (Value.int .u8 0).cells (900 * 1)).toList) : Byt w (some ⟨g, 0, none⟩) 900 900 g 0 (List.replicate 900 0) :=
  ⟨by simp, Nat.le_refl _, by decide, fun _ => ⟨rfl, (h.lt g rfl).2⟩, fun j u hu => by
    have hj : j < 900 := by have := (List.getElem?_eq_some_iff.1 hu).1; simpa using this
    have hz : u = 0 := by rw [List.getElem?_replicate, if_pos hj] at hu; exact (Option.some.inj hu).symm
    have := h.cells rfl j (.int .u8 0) (by simp [madeCells, Value.cells, hj, Nat.mod_one])
    subst hz
    rw [Nat.zero_add]
    rw [show (⟨g, 0, none⟩ : Addr).add j = ⟨g, j, none⟩ by unfold Addr.add; split <;> simp_all] at this
    exact this⟩
theorem zeros_text {w : World} {base g : Nat} (h : w.ownsRow base 5 1 (.slice (some ⟨g, 0, none⟩) 900 900) 900 (madeCells (Value.int .u8 0).cells (900 * 1)).toList) : ∃ S : ByteArray, S.size = 900 ∧ (convert 26 9 (.slice (some ⟨g, 0, none⟩) 900 900)).run Try.prog w = .ok (.string S) w := by
  obtain ⟨l, hl, hB⟩ : ∃ l : List UInt8, l.length = 900 ∧ Byt w (some ⟨g, 0, none⟩) 900 900 g 0 l := ⟨_, List.length_replicate, zeros_byt h⟩
  exact ⟨⟨l.toArray⟩, by show l.toArray.size = 900; rw [List.size_toArray]; exact hl, byt_text hB⟩
def itZ : It := ⟨⟨#[]⟩, 0, false, ⟨#[]⟩⟩
def it0 (j : Nat) : It := ⟨⟨#[117]⟩, (j : Int), false, ⟨#[]⟩⟩
def its0 (n : Nat) : List It := (List.range n).map it0
theorem its0_succ (n : Nat) : its0 (n + 1) = its0 n ++ [it0 n] := by unfold its0; rw [List.range_succ, List.map_append]; rfl
theorem its0_len (n : Nat) : (its0 n).length = n := by simp [its0]
theorem its0_bytes (n : Nat) (hn : n ≤ 1000) : (itsB (its0 n)).length ≤ 40 * n := by
  induction n with
  | zero => simp [its0, itsB]
  | succ n ih =>
    replace ih := ih (by omega)
    rw [its0_succ]
    unfold itsB at *
    rw [List.map_append, List.flatten_append, List.length_append]
    have : ((List.map itB [it0 n]).flatten).length ≤ 40 := by
      have l1 := enct_len ⟨#[117]⟩ (by decide)
      have l2 := encz_len (n : Int) (by omega)
      have l3 := encz_len (b01 false) (by decide)
      have l4 := enct_len ⟨#[]⟩ (by decide)
      have s1 : (⟨#[117]⟩ : ByteArray).size = 1 := rfl
      have s2 : (⟨#[]⟩ : ByteArray).size = 0 := rfl
      have e : (List.map itB [it0 n]).flatten = enct ⟨#[117]⟩ ++ encz (n : Int) ++ encz (b01 false) ++ enct ⟨#[]⟩ := by simp [itB, it0, encI]
      rw [e]
      simp only [List.length_append]
      omega
    omega
theorem head_bytes (e tok ver : Int) (card : ByteArray) (idx : Int) (more : Bool) (len : Int) (he : e < 9223372036854775808) (ht : tok < 9223372036854775808) (hv : ver < 9223372036854775808) (hc : card.size ≤ 1000000) (hi : idx < 9223372036854775808) (hl : len < 9223372036854775808) : (headB e tok ver card idx more len).length ≤ 63 + card.size := by
  have l1 := encz_len e he
  have l2 := encz_len tok ht
  have l3 := encz_len ver hv
  have l4 := enct_len card hc
  have l5 := encz_len idx hi
  have l6 := encz_len (b01 more) (by cases more <;> decide)
  have l7 := encz_len len hl
  unfold headB
  simp only [List.length_append]
  omega
theorem its0_all (p : It → Bool) (h : ∀ j, p (it0 j) = true) (n : Nat) : (its0 n).all p = true := by
  rw [List.all_eq_true]
  intro t ht
  obtain ⟨j, _, rfl⟩ := List.mem_map.1 ht
  exact h j
theorem ck_items (n : Nat) (hn : n ≤ 100) : checkR 10 0 0 0 ⟨#[]⟩ 0 false (its0 n) = 0 := by
  have h1 : rangedB 10 0 0 0 0 (its0 n) = true := by
    unfold rangedB
    rw [its0_all nonneg (fun j => by unfold nonneg it0; simp) n, its0_len]
    simp [hn]
  have h2 : shortB ⟨#[]⟩ (its0 n) = true := by
    unfold shortB
    rw [its0_all small (fun j => by unfold small it0; rfl) n]
    rfl
  have h3 : (bytesR 0 0 0 ⟨#[]⟩ 0 false (its0 n)).length ≤ 20000 := by
    unfold bytesR
    rw [List.length_append]
    have a := its0_bytes n (by omega)
    have b := head_bytes 0 0 0 ⟨#[]⟩ 0 false ((its0 n).length : Int) (by decide) (by decide) (by decide) (by decide) (by decide) (by rw [its0_len]; omega)
    have : (⟨#[]⟩ : ByteArray).size = 0 := rfl
    omega
  unfold checkR
  rw [if_pos h1, if_pos ⟨h2, h3⟩]
theorem ck_card (S : ByteArray) (h : S.size = 900) : checkR 6 0 0 0 S 0 false [] = 0 := by
  have h3 : (bytesR 0 0 0 S 0 false []).length ≤ 20000 := by
    unfold bytesR
    rw [List.length_append]
    have b := head_bytes 0 0 0 S 0 false (([] : List It).length : Int) (by decide) (by decide) (by decide) (by omega) (by decide) (by decide)
    have : (itsB []).length = 0 := rfl
    omega
  unfold checkR
  rw [if_pos (by decide), if_pos ⟨by unfold shortB; simp [h], h3⟩]
theorem ck_long (S : ByteArray) (h : S.size = 901) : checkR 6 0 0 0 S 0 false [] = 2 := by
  unfold checkR
  rw [if_pos (by decide), if_neg (fun g => by have := g.1; unfold shortB at this; simp [h] at this)]
theorem ck_many (xs : List It) (h : 100 < xs.length) : checkR 10 0 0 0 ⟨#[]⟩ 0 false xs = 12 := by
  unfold checkR
  rw [if_neg (fun g => by have := (ranged_le g).1; omega)]
set_option maxHeartbeats 8000000 in
theorem items_law (n : Int) (over : Bool) (w : World) : Calls Try.prog 6 #[.int .i64 n, .bool over] w fun e w' => e = .returned (.bool true) ∧ Below w.heap.size w w' := by
  obtain ⟨i0, hi, hz0, hz1, hz2⟩ := info_parts infoIt
  have ha := i64_and n 255 (by decide) (by decide)
  obtain ⟨M, hM⟩ : ∃ M : Nat, ((BitVec.ofInt 64 n).toNat &&& (255 : Int).toNat) = M := ⟨_, rfl⟩
  rw [hM] at ha
  clear hM
  go_enter Try.func6, Try.ntmps6
  go_wp2_with fail
  refine (first_any _).mono ?_
  rintro _ w1 ⟨rfl, hb⟩
  have HB1 := Lib.hid hb
  clear hb
  go_wp2_with fail
  have HK0 := Lib.hid (show Rk w (w1.alloc (.cells #[.int .i64 10, .int .i64 0, .int .i64 0, .int .i64 0, .string ⟨#[]⟩, .int .i64 0, .bool false, .slice none 0 0] 25)) w1.heap.size 10 (.slice none 0 0) (its0 0) from ⟨Blk.new _ _ _, World.ownsRow_nil _ _ _ _, HB1.out.alloc HB1.out.size _, HB1.out.size⟩)
  go_loopw [6] (fun i wr => ∃ (j : Nat) (v : Value), j ≤ 100 ∧ i = .int .i64 (j : Int) ∧ Rk w wr w1.heap.size 10 v (its0 j)) (fun i _ => 100 - (intOf i).toNat)
  case atStart => exact ⟨0, _, by omega, rfl, HK0.out⟩
  case round =>
    obtain ⟨j, v, hj, rfl, hR⟩ := hrel
    have HR := Lib.hid hR
    have c7 := hR.bx.cell 7
    have HOA := Lib.hid (hR.ow.alloc (.cells #[.string ⟨#[117]⟩, .int .i64 (j : Int), .bool false, .string ⟨#[]⟩] 39))
    have HBK := Lib.hid (Blk.new wr 39 #[.string ⟨#[117]⟩, .int .i64 (j : Int), .bool false, .string ⟨#[]⟩])
    have hlx := its0_len j
    have hX := hR.bx.lt
    clear hR
    by_cases hlt : (j : Int) < (M : Int) % 101
    · go_wp2_with (at_builtin; refine wpList_append_own _ rfl _ _ 23 rfl (w1.heap.size + 1) 39 i0 _ 4 48 Try.underlying23 hi hz0 hz1 hz2 rfl (by decide) _ _ _ rfl HOA.out ⟨wr.heap.size, 0, none⟩ 1 1 (itC (it0 j)) rfl rfl ?c1 ?c2 ?c3 ?c4 ?c5 ?_)
      case c1 =>
        intro i u hj
        have e := HBK.out.cell i
        rw [show (⟨wr.heap.size, 0, none⟩ : Addr).add i = ⟨wr.heap.size, i, none⟩ by unfold Addr.add; split <;> simp_all, e, ← hj]
        simp [itC, it0]
      case c2 =>
        intro u hu
        simp only [itC, List.mem_cons, List.not_mem_nil, or_false] at hu
        rcases hu with rfl | rfl | rfl | rfl <;> rfl
      case c3 => unfold maxLen; omega
      case c4 => omega
      case c5 => simp; omega
      intro v' w9 h1 h2 h3
      obtain ⟨g', cap', rfl⟩ := row_succ h1
      have h4 := HR.out.step (t := it0 j) h2 (by rw [hlx]; exact h1)
      have HB9 := Lib.hid h4.1
      have HK9 := Lib.hid h4.2
      have d7 := h4.1.cell 7
      have e7 := h4.1.frozen 7
      clear h1 h2 h3 h4
      go_wp2
      go_roundw
      case rel => exact ⟨j + 1, _, by omega, by go_num, by rw [its0_succ]; exact HK9.out⟩
      case measure => simp [intOf]; omega
    · obtain ⟨i5, hj5, hy0, hy1, hy2⟩ := info_parts info5
      go_wp2_with (at_make; refine wpList_make_full _ rfl _ _ 26 rfl (w1.heap.size + 1) 5 i5 _ 1 Try.underlying26 hj5 hy0 hy1 .i64 .i64 900 900 900 rfl rfl rfl rfl ?b2 ?b3 ?b4 ?_)
      case b3 => decide
      case b4 => omega
      intro w2 h1 h2
      have HB2 := Lib.hid (show Below wr.heap.size wr w2 from ⟨h2.os, h2.tape, h2.output, h2.size, fun j hj => h2.block j hj (by simp)⟩)
      have HK2 := Lib.hid (HR.out.below HB2.out)
      obtain ⟨S, hSz, HT⟩ := zeros_text h1
      clear h1 h2
      obtain ⟨A, cap, b, rfl, hI, hB⟩ := own_its2 HK2.out.ow
      have hba : Below w2.heap.size w2 (w2.alloc (.cells #[.int .i64 6, .int .i64 0, .int .i64 0, .int .i64 0, .string S, .int .i64 0, .bool false, .slice none 0 0] 25)) := (Below.refl _ _).alloc (Nat.le_refl _) _
      have HK3 := Lib.hid (HK2.out.below hba)
      have HX3 := Lib.hid (Blk.new w2 25 #[.int .i64 6, .int .i64 0, .int .i64 0, .int .i64 0, .string S, .int .i64 0, .bool false, .slice none 0 0])
      have hI3 := hI.below hba (fun h => (hI.addr h).2)
      rw [hlx] at hI3
      have HI3 := Lib.hid hI3
      clear hI3
      clear hba hI
      cases over with
      | false =>
        have HC1 := Lib.hid (ck_items j hj ▸ check_any HI3.out 10 0 0 0 ⟨#[]⟩ 0 false (by decide) (by decide) (fun t ht => by obtain ⟨i, hi, rfl⟩ := List.mem_map.1 ht; have := List.mem_range.1 hi; show ((i : Nat) : Int) < _; omega))
        have HC2 := Lib.hid (fun W => ck_card S hSz ▸ check_any (its_none W) 6 0 0 0 S 0 false (by decide) (by decide) (fun t ht => by cases ht))
        have a0 := HK3.out.bx.cell 0
        have a1 := HK3.out.bx.cell 1
        have a2 := HK3.out.bx.cell 2
        have a3 := HK3.out.bx.cell 3
        have a4 := HK3.out.bx.cell 4
        have a5 := HK3.out.bx.cell 5
        have a6 := HK3.out.bx.cell 6
        have a7 := HK3.out.bx.cell 7
        go_wp2_with fail
        refine HC1.out.mono ?_
        rintro _ w4 ⟨rfl, hb⟩
        have HX4 := Lib.hid (HX3.out.below hb HX3.out.lt)
        have HB4 := Lib.hid (HK3.out.bel.trans (hb.mono HK3.out.bel.size))
        clear hb
        have b0 := HX4.out.cell 0
        have b1 := HX4.out.cell 1
        have b2 := HX4.out.cell 2
        have b3 := HX4.out.cell 3
        have b4 := HX4.out.cell 4
        have b5 := HX4.out.cell 5
        have b6 := HX4.out.cell 6
        have b7 := HX4.out.cell 7
        go_wp2_with fail
        refine (HC2.out _).mono ?_
        rintro _ w5 ⟨rfl, hb⟩
        have HB5 := Lib.hid (HB4.out.trans (hb.mono HB4.out.size))
        clear hb
        go_wp2
        go_ret
        exact ⟨rfl, HB5.out⟩
      | true =>
        go_wp2_with fail
        go_loopw [] (fun wr => ∃ (v : Value) (xs : List It), xs.length ≤ 101 ∧ (∀ t ∈ xs, t.v < 9223372036854775808) ∧ Rk w wr w1.heap.size 10 v xs ∧ Blk wr w2.heap.size 25 #[.int .i64 6, .int .i64 0, .int .i64 0, .int .i64 0, .string S, .int .i64 0, .bool false, .slice none 0 0]) (fun wr => 101 - lenOf (wr.cell? ⟨w1.heap.size, 7, none⟩))
        case atStart => exact ⟨_, its0 j, by omega, fun t ht => by obtain ⟨i, hi, rfl⟩ := List.mem_map.1 ht; have := List.mem_range.1 hi; show ((i : Nat) : Int) < _; omega, by have := HK3.out; rw [hlx] at this; exact this, HX3.out⟩
        case round =>
          obtain ⟨v, xs, hx, hv5, hR, hBX⟩ := hrel
          have HV5 := Lib.hid hv5
          clear hv5
          obtain ⟨A5, cap5, b5, rfl, hI5, hB5⟩ := own_its2 hR.ow
          have HR5 := Lib.hid hR
          have HX5 := Lib.hid hBX
          have HI5 := Lib.hid hI5
          have c7 := hR.bx.cell 7
          have hXX : w1.heap.size < w2.heap.size := by have := HK2.out.bx.lt; omega
          have hXR := hR.bx.lt
          by_cases hlt : (xs.length : Int) ≤ 100
          · have hlt2 : (xs.length : Int) < 200 := by omega
            have HOA := Lib.hid (hR.ow.alloc (.cells #[.string ⟨#[]⟩, .int .i64 0, .bool false, .string ⟨#[]⟩] 39))
            have HBK := Lib.hid (Blk.new wr 39 #[.string ⟨#[]⟩, .int .i64 0, .bool false, .string ⟨#[]⟩])
            clear hR hBX hI5 hB5
            go_wp2_with (at_builtin; refine wpList_append_own _ rfl _ _ 23 rfl (w1.heap.size + 1) 39 i0 _ 4 48 Try.underlying23 hi hz0 hz1 hz2 rfl (by decide) _ _ _ rfl HOA.out ⟨wr.heap.size, 0, none⟩ 1 1 (itC itZ) rfl rfl ?c1 ?c2 ?c3 ?c4 ?c5 ?_)
            case c1 =>
              intro i u hj
              have e := HBK.out.cell i
              rw [show (⟨wr.heap.size, 0, none⟩ : Addr).add i = ⟨wr.heap.size, i, none⟩ by unfold Addr.add; split <;> simp_all, e, ← hj]
              simp [itC, itZ]
            case c2 =>
              intro u hu
              simp only [itC, List.mem_cons, List.not_mem_nil, or_false] at hu
              rcases hu with rfl | rfl | rfl | rfl <;> rfl
            case c3 => unfold maxLen; omega
            case c4 => omega
            case c5 => simp; omega
            intro v' w9 h1 h2 h3
            obtain ⟨g', cap', rfl⟩ := row_succ h1
            have h4 := HR5.out.step (t := itZ) h2 h1
            have hx2 := HX5.out.below ((Below.refl _ _).alloc (Nat.le_refl _) (.cells #[.string ⟨#[]⟩, .int .i64 0, .bool false, .string ⟨#[]⟩] 39)) HX5.out.lt
            have HX9 := Lib.hid ((hx2.grown h2 (HR5.out.ne2 HX5.out)).far (p := ⟨w1.heap.size, 7, none⟩) (by show w2.heap.size ≠ w1.heap.size; omega) (.slice (some ⟨g', 0, none⟩) (xs.length + 1) cap'))
            have HK9 := Lib.hid h4.2
            have d7 := h4.1.cell 7
            have e7 := h4.1.frozen 7
            have m7 := h4.2.bx.cell 7
            have HM := Lib.hid (show 101 - lenOf ((w9.setCell ⟨w1.heap.size, 7, none⟩ (.slice (some ⟨g', 0, none⟩) (xs.length + 1) cap')).cell? ⟨w1.heap.size, 7, none⟩) < 101 - lenOf (wr.cell? ⟨w1.heap.size, 7, none⟩) by
              rw [m7, c7]
              show 101 - (xs.length + 1) < 101 - xs.length
              omega)
            clear h1 h2 h3 h4 hx2 m7
            go_wp2
            go_roundw
            case rel => exact ⟨_, xs ++ [itZ], by rw [List.length_append]; show xs.length + 1 ≤ 101; omega, fun t ht => (List.mem_append.1 ht).elim (HV5.out t) (fun h => by rw [List.mem_singleton.1 h]; decide), HK9.out, HX9.out⟩
            case measure => exact HM.out
          · have hck := ck_many xs (by omega)
            have hne := hR.ne2 hBX
            have HXq := Lib.hid (hBX.set_ 4 (.string (S ++ ⟨#[120]⟩)))
            have HRq := Lib.hid (hR.bx.far (p := ⟨w2.heap.size, 4, none⟩) (by show w1.heap.size ≠ w2.heap.size; omega) (.string (S ++ ⟨#[120]⟩)))
            have HIq := Lib.hid (hI5.blk (w' := wr.setCell ⟨w2.heap.size, 4, none⟩ (.string (S ++ ⟨#[120]⟩))) (by simp [World.setCell]) (fun h => Below.heap_setCell _ _ _ _ (fun e => hne (by rw [(hI5.addr h).1, e]; rfl))))
            have HC1 := Lib.hid (hck ▸ check_any HIq.out 10 0 0 0 ⟨#[]⟩ 0 false (by decide) (by decide) HV5.out)
            have HC2 := Lib.hid (fun W => ck_long (S ++ (⟨#[120]⟩ : ByteArray)) (by rw [ByteArray.size_append, hSz]; rfl) ▸ check_any (its_none W) 6 0 0 0 (S ++ (⟨#[120]⟩ : ByteArray)) 0 false (by decide) (by decide) (fun t ht => by cases ht))
            have HBq := Lib.hid (hR.bel.setCell (p := ⟨w2.heap.size, 4, none⟩) (by have := hR.hX; show w.heap.size ≤ w2.heap.size; omega) (.string (S ++ ⟨#[120]⟩)))
            have x4 := hBX.cell 4
            have y4 := hBX.frozen 4
            have a0 := HRq.out.cell 0
            have a1 := HRq.out.cell 1
            have a2 := HRq.out.cell 2
            have a3 := HRq.out.cell 3
            have a4 := HRq.out.cell 4
            have a5 := HRq.out.cell 5
            have a6 := HRq.out.cell 6
            have a7 := HRq.out.cell 7
            clear hR hBX hI5 hB5 hck hne
            go_wp2_with fail
            refine HC1.out.mono ?_
            rintro _ w4 ⟨rfl, hb⟩
            have HX6 := Lib.hid (HXq.out.below hb HXq.out.lt)
            have HB6 := Lib.hid (HBq.out.trans (hb.mono HBq.out.size))
            clear hb
            have b0 := HX6.out.cell 0
            have b1 := HX6.out.cell 1
            have b2 := HX6.out.cell 2
            have b3 := HX6.out.cell 3
            have b4 := HX6.out.cell 4
            have b5 := HX6.out.cell 5
            have b6 := HX6.out.cell 6
            have b7 := HX6.out.cell 7
            go_wp2_with fail
            refine (HC2.out _).mono ?_
            rintro _ w5 ⟨rfl, hb⟩
            have HB7 := Lib.hid (HB6.out.trans (hb.mono HB6.out.size))
            clear hb
            go_wp2
            go_ret
            exact ⟨rfl, HB7.out⟩
theorem respItems_walk (w : World) (a0 : Int) (w0 : (Lit.int .i64 a0).wf = true) (a1 : Bool) :
    Calls Try.prog 6 #[.int .i64 a0, .bool a1] w fun e w' => e = .returned (.bool true) ∧ Below w.heap.size w w' := items_law a0 a1 w
end Go.Proofs.Ytdoldjfabgcgbaa
