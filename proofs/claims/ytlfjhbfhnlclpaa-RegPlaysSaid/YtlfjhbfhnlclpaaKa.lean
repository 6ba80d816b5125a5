/- Stage 21's laws: acts that came in; light, step, first; rows of texts: Texts. -/
import Derived.Test.YtlfjhbfhnlclpaaJg
import Derived.Laws.Cover1
namespace Go.Proofs.Ytlfjhbfhnlclpaa
open Go.RowKit
open Go.Lib
set_option linter.unusedVariables false
set_option linter.unusedSimpArgs false
set_option maxRecDepth 100000
abbrev A3 := Int × ByteArray × Int
def Acts (w : World) (A : Option Addr) (len b off : Nat) (xs : Nat → A3) : Prop :=
  (0 < len → A = some ⟨b, off, none⟩ ∧ b < w.heap.size) ∧ ∀ i, i < len → w.cell? ⟨b, off + i * 3, none⟩ = some (.int .i64 (xs i).1) ∧ w.cell? ⟨b, off + i * 3 + 1, none⟩ = some (.string (xs i).2.1) ∧ w.cell? ⟨b, off + i * 3 + 2, none⟩ = some (.int .i64 (xs i).2.2) ∧ (xs i).2.1.size ≤ maxLen ∧ (Lit.int .i64 (xs i).2.2).wf = true
theorem acts_of {w : World} {A : Option Addr} {len cap : Nat} (S : Sh.ok w (Sh.slice 3 (Sh.agg 3 [(0, 1, (Sh.int .i64)), (1, 1, Sh.str), (2, 1, (Sh.int .i64))])) [.slice A len cap]) :
    ∃ b off xs, len ≤ cap ∧ cap ≤ maxLen ∧ Acts w A len b off xs := by
  obtain ⟨b, off, hl, hm, hA, hc⟩ := slice_at S (by omega)
  have h : ∀ i, ∃ x : A3, i < len → w.cell? ⟨b, off + i * 3, none⟩ = some (.int .i64 x.1) ∧ w.cell? ⟨b, off + i * 3 + 1, none⟩ = some (.string x.2.1) ∧ w.cell? ⟨b, off + i * 3 + 2, none⟩ = some (.int .i64 x.2.2) ∧ x.2.1.size ≤ maxLen ∧ (Lit.int .i64 x.2.2).wf = true := by
    intro i
    by_cases hi : i < len
    · obtain ⟨cs, hlen, hok, hat⟩ := hc i hi
      simp only [Sh.ok, Sh.okAll] at hok
      obtain ⟨_, ⟨x, e1, w1⟩, ⟨y, e2, w2⟩, ⟨z, e3, w3⟩, _⟩ := hok
      have hl2 : ∃ c0 c1 c2, cs = [c0, c1, c2] := by
        match cs, hlen with
        | [c0, c1, c2], _ => exact ⟨c0, c1, c2, rfl⟩
      obtain ⟨c0, c1, c2, rfl⟩ := hl2
      simp at e1 e2 e3
      subst e1 e2 e3
      exact ⟨(x, y, z), fun _ => ⟨hat 0 (by omega), hat 1 (by omega), hat 2 (by omega), w2, w3⟩⟩
    · exact ⟨(0, .empty, 0), fun h => absurd h hi⟩
  exact ⟨b, off, fun i => (h i).choose, hl, hm, hA, fun i hi => (h i).choose_spec hi⟩
theorem Acts.keep {w w' : World} {A : Option Addr} {len b off : Nat} {xs : Nat → A3} (h : Acts w A len b off xs) (hb : Below w.heap.size w w') : Acts w' A len b off xs :=
  ⟨fun hl => ⟨(h.1 hl).1, Nat.lt_of_lt_of_le (h.1 hl).2 hb.size⟩, fun i hi => by
    obtain ⟨h1, h2, h3, h4⟩ := h.2 i hi
    have hlt := (h.1 (by omega)).2
    exact ⟨by rw [hb.cell (p := ⟨b, _, none⟩) hlt]; exact h1, by rw [hb.cell (p := ⟨b, _, none⟩) hlt]; exact h2, by rw [hb.cell (p := ⟨b, _, none⟩) hlt]; exact h3, h4⟩⟩
def LightP (len : Nat) (s : Int) (xs : Nat → A3) (e : Ending) : Prop := ∃ bb, e = .returned (.bool bb) ∧ (bb = true → s ≤ 64 ∧ len ≤ 80 ∧ ∀ i, i < len → (xs i).2.1.size ≤ 40)
theorem light_any (w : World) (s : Int) (A : Option Addr) (len cap b off : Nat) (xs : Nat → A3) (hl : len ≤ cap) (hm : cap ≤ maxLen) (hA : Acts w A len b off xs) :
    Calls Try.prog 9 #[.int .i64 s, .slice A len cap] w fun e w' => LightP len s xs e ∧ w' = w := by
  have HA := Lib.hid hA
  unfold maxLen at hm
  by_cases h64 : s > 64
  · clear hA
    go_enter Try.func9, Try.ntmps9
    go_wp2
    go_ret
    exact ⟨⟨false, rfl, fun e => by cases e⟩, rfl⟩
  by_cases h80 : len > 80
  · have hI : (len : Int) > 80 := by omega
    clear hA
    go_enter Try.func9, Try.ntmps9
    go_wp2
    go_ret
    exact ⟨⟨false, rfl, fun e => by cases e⟩, rfl⟩
  · have hI : ¬ (len : Int) > 80 := by omega
    clear hA
    go_enter Try.func9, Try.ntmps9
    go_wp2_with fail
    go_loop [5] (fun i => ∃ q : Nat, q ≤ len ∧ i = .int .i64 (q : Int) ∧ ∀ j, j < q → (xs j).2.1.size ≤ 40) (fun i => len - (intOf i).toNat)
    case atStart => exact ⟨0, Nat.zero_le _, rfl, fun j hj => absurd hj (Nat.not_lt_zero _)⟩
    case round =>
      obtain ⟨q, hq, rfl, hsk⟩ := hrel
      have HS := Lib.hid hsk
      clear hsk
      by_cases hql : q < len
      · obtain ⟨d0, d1, d2, d3, _⟩ := HA.out.2 q hql
        obtain rfl := (HA.out.1 (by omega)).1
        have hqI : (q : Int) < (len : Int) := by omega
        obtain ⟨kk, hkk⟩ : ∃ kk, (xs q).2.1 = kk := ⟨_, rfl⟩
        rw [hkk] at d1 d3
        have HK := Lib.hid hkk
        clear hkk d0 d2
        by_cases h40 : kk.size > 40
        · have hkI : (kk.size : Int) > 40 := by omega
          go_wp2
          go_ret
          exact ⟨⟨false, rfl, fun e => by cases e⟩, rfl⟩
        · have hkI : ¬ (kk.size : Int) > 40 := by omega
          go_wp2
          go_round
          case rel => exact ⟨q + 1, by omega, by go_num, fun j hj => by
            by_cases e : j = q
            · subst e; rw [HK.out]; omega
            · exact HS.out j (by omega)⟩
          case measure => simp [intOf]; omega
      · obtain rfl : q = len := by omega
        clear hql
        go_wp2
        go_ret
        exact ⟨⟨true, rfl, fun _ => ⟨by omega, by omega, HS.out⟩⟩, rfl⟩
/-- A slice of texts. -/
def Sl (w : World) (A : Option Addr) (cap g : Nat) (l : List ByteArray) : Prop := l.length ≤ cap ∧ ∀ j x, l[j]? = some x → A = some ⟨g, 0, none⟩ ∧ g < w.heap.size ∧ w.cell? ⟨g, j, none⟩ = some (.string x)
theorem Sl.below {w w' : World} {A : Option Addr} {cap g : Nat} {l : List ByteArray} (h : Sl w A cap g l) (hb : Below w.heap.size w w') : Sl w' A cap g l :=
  ⟨h.1, fun j x hj => by
    obtain ⟨h1, h2, h3⟩ := h.2 j x hj
    exact ⟨h1, Nat.lt_of_lt_of_le h2 hb.size, by rw [hb.cell (p := ⟨g, _, none⟩) h2]; exact h3⟩⟩
theorem sl_row {w : World} {B : Nat} {V : Value} {l : List ByteArray} (h : w.ownsRow B 9 1 V l.length (svs l)) : ∃ A cap g, V = .slice A l.length cap ∧ Sl w A cap g l := by
  obtain ⟨h0, ⟨rfl, e⟩ | ⟨b, cap, cur, rfl, e2, e3, e4, e5, e6, e7⟩⟩ := h
  · refine ⟨none, 0, 0, by rw [e], by omega, fun j x hj => ?_⟩
    rw [List.length_eq_zero_iff.1 e] at hj
    cases hj
  · refine ⟨_, cap, b, rfl, e4, fun j x hj => ⟨rfl, ?_, ?_⟩⟩
    · rcases Nat.lt_or_ge b w.heap.size with hlt | hge
      · exact hlt
      · rw [Array.getElem?_eq_none hge] at e3; cases e3
    · rw [cell_of_row w b j cur 9 (0, 0) e3]
      have hl := (List.getElem?_eq_some_iff.1 hj).1
      have hv : (svs l)[j]? = some (.string x) := by unfold svs; rw [List.getElem?_map, hj]; rfl
      rw [← e7, List.getElem?_take, if_pos (by omega)] at hv
      rw [← Array.getElem?_toList]; exact hv
set_option maxHeartbeats 2000000 in
theorem texts_same {w : World} {A B : Option Addr} {capA capB ga gb : Nat} {l : List ByteArray} (h : Sl w A capA ga l) (k : Sl w B capB gb l) (hn : l.length ≤ 1000000) : Calls Try.prog 21 #[.slice A l.length capA, .slice B l.length capB] w fun e w' => e = .returned (.bool true) ∧ Below w.heap.size w w' := by
  have HA := Lib.hid h
  have HB := Lib.hid k
  obtain ⟨n, hnn⟩ : ∃ n, l.length = n := ⟨_, rfl⟩
  have HN := Lib.hid hnn
  rw [hnn] at hn ⊢
  have hnI : (n : Int) ≤ 1000000 := by omega
  clear h k hnn
  go_enter Try.func21, Try.ntmps21
  go_wp2_with fail
  go_loopw [5] (fun i wr => ∃ q : Nat, q ≤ n ∧ i = .int .i64 (q : Int) ∧ Below w.heap.size w wr) (fun i _ => n - (intOf i).toNat)
  case atStart => exact ⟨0, Nat.zero_le _, rfl, Below.refl _ _⟩
  case round =>
    obtain ⟨q, hq, rfl, hb⟩ := hrel
    have HQ := Lib.hid hb
    clear hb
    by_cases hql : q < n
    · obtain ⟨x, hx⟩ : ∃ x, l[q]? = some x := ⟨l[q]'(by rw [HN.out]; exact hql), List.getElem?_eq_getElem _⟩
      obtain ⟨rfl, hgl, d0⟩ := (HA.out.below HQ.out).2 q x hx
      obtain ⟨rfl, hgl2, d1⟩ := (HB.out.below HQ.out).2 q x hx
      have hqI : (q : Int) < (n : Int) := by omega
      clear hx
      go_wp2_with fail
      go_region
      all_goals (
        go_wp2
        go_roundw
        case rel => exact ⟨q + 1, by omega, by go_num, HQ.out.drew⟩
        case measure => simp [intOf]; omega)
    · obtain rfl : n = q := by omega
      clear hql
      go_wp2
      go_ret
      exact ⟨rfl, HQ.out⟩
section
variable {w w1 w' : World} {r M c : Nat} {n : Int} {E : List (Int × Nat)} {L L' : LN}
theorem Went.pre (hb : Below w.heap.size w w1) (h : Went w1 w' r M n E L' c) : Went w w' r M n E L' c := by
  obtain ⟨E', h1, h2, h3, h4⟩ := h
  exact ⟨E', h1, (Fx.of hb).trans h2 (fun j hj => .inl hj), fun p hp => (h3 p hp).imp id (fun e => Nat.le_trans hb.size e), (ON.KeepN.of hb).trans h4⟩
theorem Went.post (h : Went w w1 r M n E L' c) (hb : Below w1.heap.size w1 w') : Went w w' r M n E L' c := by
  obtain ⟨E', h1, h2, h3, h4⟩ := h
  exact ⟨E', h1.below hb, h2.trans (Fx.of (S := []) hb) (fun j hj => by cases hj), h3, h4.trans (ON.KeepN.of hb)⟩
/-- A registry that the law has made. -/
structure Rl (w0 w : World) (r M : Nat) (n : Int) (E : List (Int × Nat)) (L : LN) (c : Nat) : Prop where
  rg : Rgs w r M n E L c
  bel : Below w0.heap.size w0 w
  ge : ∀ j ∈ blocks r M E, w0.heap.size ≤ j
theorem Rl.went {w0 : World} (h : Rl w0 w r M n E L c) {c' : Nat} (k : Went w w' r M n E L' c') : ∃ E', Rl w0 w' r M n E' L' c' := by
  obtain ⟨E', h1, h2, h3, h4⟩ := k
  refine ⟨E', h1, h.bel.trans (h2.below h.bel.size (fun j hj => h.ge j ?_)), fun j hj => ?_⟩
  · unfold blocks
    exact List.mem_cons_of_mem _ hj
  · unfold blocks at hj
    rcases List.mem_cons.1 hj with rfl | hj
    · exact h.ge _ (by simp [blocks])
    · rcases List.mem_cons.1 hj with rfl | hj
      · exact h.ge _ (by simp [blocks])
      · obtain ⟨p, hp, rfl⟩ := List.mem_map.1 hj
        rcases h3 p hp with h5 | h5
        · exact h.ge _ (by unfold blocks; exact List.mem_cons_of_mem _ (List.mem_cons_of_mem _ (List.mem_map.2 ⟨p, h5, rfl⟩)))
        · exact Nat.le_trans h.bel.size h5
theorem Rl.below {w0 : World} (h : Rl w0 w r M n E L c) (hb : Below w.heap.size w w') : Rl w0 w' r M n E L c := ⟨h.rg.below hb, h.bel.trans (hb.mono h.bel.size), h.ge⟩
theorem Rl.drewN {w0 : World} (h : Rl w0 w r M n E L c) (q : Nat) : Rl w0 (w.drewN q) r M n E L c := ⟨h.rg.drewN q, below_drewN h.bel q, h.ge⟩
def stepO (op : Int) (k : ByteArray) (id : Int) (L : LN) : Bool × LN := if op = 0 then addO k id L else if op = 1 then remO k id L else (decide (0 ≤ findO k L), L)
set_option maxHeartbeats 1000000 in
theorem step_any (h : Rgs w r M n E L c) (hc : c ≤ 30000) (op id : Int) (k : ByteArray) (hk : k.size ≤ 40) (ok : Bool) (L' : LN) (hs : stepO op k id L = (ok, L')) :
    Calls Try.prog 15 #[.pointer (some ⟨r, 0, none⟩), .agg #[.int .i64 op, .string k, .int .i64 id]] w fun e w' => e = .returned (.bool ok) ∧ Went w w' r M n E L' (c + 2) := by
  obtain ⟨wA, hwA⟩ : ∃ wA, w.alloc (.cells #[.int .i64 op, .string k, .int .i64 id] 30) = wA := ⟨_, rfl⟩
  have hb : Below w.heap.size w wA := hwA ▸ (Below.refl _ w).alloc (Nat.le_refl _) _
  have hB : Blk wA w.heap.size 30 #[.int .i64 op, .string k, .int .i64 id] := hwA ▸ Blk.new w _ _
  have e0 := hB.cell 0
  have e1 := hB.cell 1
  have e2 := hB.cell 2
  simp only [List.getElem?_toArray, List.getElem?_cons_zero, List.getElem?_cons_succ] at e0 e1 e2
  have hA := h.below hb
  have HB := Lib.hid hb
  have HA := Lib.hid hA
  have HS := Lib.hid hs
  clear hB hb hs
  by_cases h0 : op = 0
  · have HC := Lib.hid (add_any hA hc k hk id ok L' (by have := HS.out; unfold stepO at this; rw [if_pos h0] at this; exact this))
    subst h0
    clear hA h
    go_enter Try.func15, Try.ntmps15
    go_wp2_with fail
    refine HC.out.mono ?_
    rintro _ w2 ⟨rfl, h2⟩
    have H2 := Lib.hid h2
    clear h2
    go_wp2
    go_ret
    exact ⟨rfl, H2.out.pre HB.out⟩
  · have h0b : (op == 0) = false := by simpa using h0
    by_cases h1 : op = 1
    · have HC := Lib.hid (rem_any hA hc k hk id ok L' (by have := HS.out; unfold stepO at this; rw [if_neg h0, if_pos h1] at this; exact this))
      subst h1
      clear hA h
      go_enter Try.func15, Try.ntmps15
      go_wp2_with fail
      refine HC.out.mono ?_
      rintro _ w2 ⟨rfl, h2⟩
      have H2 := Lib.hid h2
      clear h2
      go_wp2
      go_ret
      exact ⟨rfl, H2.out.pre HB.out⟩
    · have h1b : (op == 1) = false := by simpa using h1
      have hs2 := HS.out
      unfold stepO at hs2
      rw [if_neg h0, if_neg h1] at hs2
      obtain ⟨v, hv⟩ : ∃ v, findO k L = v := ⟨_, rfl⟩
      rw [hv] at hs2
      cases hs2
      have HC := Lib.hid (find_any hA k (by omega) v hv)
      clear hA h hv
      go_enter Try.func15, Try.ntmps15
      go_wp2_with fail
      refine HC.out.mono ?_
      rintro _ w2 ⟨rfl, rfl⟩
      go_wp2
      go_ret
      exact ⟨by first | rfl | simp, (Went.same HA.out.up.up 1).pre HB.out⟩
end
def sa : ByteArray := ⟨#[97, 110, 110, 47, 97]⟩
def sb : ByteArray := ⟨#[97, 110, 110, 47, 98]⟩
theorem ne_ab : sb ≠ sa := fun e => by
  have := congrArg (fun k => k.data.toList) e
  revert this
  decide
set_option maxHeartbeats 2000000 in
theorem first_any (w : World) : Calls Try.prog 8 #[] w fun e w' => e = .returned (.bool true) ∧ Below w.heap.size w w' := by
  go_enter Try.func8, Try.ntmps8
  go_wp2_with fail
  refine (new_reg 3 w (by decide) 3 rfl).mono ?_
  rintro _ w1 ⟨r, M, rfl, h1, hb, hr, hM⟩
  have H1 := Lib.hid (show Rl w w1 r M 3 [] [] 0 from ⟨h1, hb, fun j hj => by simp [blocks] at hj; rcases hj with rfl | rfl <;> assumption⟩)
  clear h1 hb hr hM
  go_wp2_with fail
  refine (add_any H1.out.rg (by decide) sa (by decide) 4 true [(sa, 4)] rfl).mono ?_
  rintro _ w2 ⟨rfl, h2⟩
  obtain ⟨E2, h2⟩ := H1.out.went h2
  have H2 := Lib.hid h2
  clear h2
  go_wp2_with fail
  refine (find_any H2.out.rg sa (by decide) 4 (by unfold findO getL; rw [if_pos rfl]; rfl)).mono ?_
  rintro _ w3 ⟨rfl, rfl⟩
  have H3 := Lib.hid (H2.out.drewN 1)
  go_wp2_with fail
  refine (rem_any H3.out.rg (by decide) sa (by decide) 3 false [(sa, 4)] (by unfold remO findO getL; rw [if_pos rfl]; rfl)).mono ?_
  rintro _ w4 ⟨rfl, h2⟩
  obtain ⟨E4, h2⟩ := H3.out.went h2
  have H4 := Lib.hid h2
  clear h2
  go_wp2_with fail
  refine (len_reg H4.out.rg (by decide) 1 rfl).mono ?_
  rintro _ w5 ⟨rfl, hb⟩
  have H5 := Lib.hid (H4.out.below hb)
  clear hb
  go_wp2_with fail
  refine (find_any H5.out.rg sb (by decide) (-1) (by unfold findO getL; rw [if_neg ne_ab]; rfl)).mono ?_
  rintro _ w6 ⟨rfl, rfl⟩
  have H6 := Lib.hid (H5.out.drewN 1)
  go_wp2
  go_ret
  exact ⟨rfl, H6.out.bel⟩
end Go.Proofs.Ytlfjhbfhnlclpaa
