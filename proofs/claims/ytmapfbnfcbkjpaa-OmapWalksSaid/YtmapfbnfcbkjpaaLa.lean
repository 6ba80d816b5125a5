/- Stage 14's laws: acts that came in; light; rows of texts: place, Texts. -/
import Derived.Test.YtmapfbnfcbkjpaaOix
namespace Go.Proofs.Ytmapfbnfcbkjpaa
open Go.RowKit
open Go.Lib
set_option linter.unusedVariables false
set_option linter.unusedSimpArgs false
set_option maxRecDepth 100000
abbrev A3 := Int × ByteArray × Int
def Acts (w : World) (A : Option Addr) (len b off : Nat) (xs : Nat → A3) : Prop :=
  (0 < len → A = some ⟨b, off, none⟩ ∧ b < w.heap.size) ∧ ∀ i, i < len → w.cell? ⟨b, off + i * 3, none⟩ = some (.int .i64 (xs i).1) ∧ w.cell? ⟨b, off + i * 3 + 1, none⟩ = some (.string (xs i).2.1) ∧ w.cell? ⟨b, off + i * 3 + 2, none⟩ = some (.int .i64 (xs i).2.2) ∧ (xs i).2.1.size ≤ maxLen ∧ (Lit.int .i64 (xs i).2.2).wf = true
theorem acts_of {w : World} {A : Option Addr} {len cap : Nat} (S : Sh.ok w (Sh.slice 3 (Sh.agg 3 [(0, 1, (Sh.int .i64)), (1, 1, Sh.str), (2, 1, (Sh.int .i64))])) [.slice A len cap]) :
    ∃ b off xs, len ≤ cap ∧ cap ≤ maxLen ∧ Acts w A len b off xs := by
  obtain ⟨b, off, hl, hm, hA, hc⟩ := slice_at S (by omega)
  have h : ∀ i, ∃ x : A3, i < len → w.cell? ⟨b, off + i * 3, none⟩ = some (.int .i64 x.1) ∧ w.cell? ⟨b, off + i * 3 + 1, none⟩ = some (.string x.2.1) ∧ w.cell? ⟨b, off + i * 3 + 2, none⟩ = some (.int .i64 x.2.2) ∧ x.2.1.size ≤ maxLen ∧ (Lit.int .i64 x.2.2).wf = true := by
    intro i
    by_cases hi : i < len
    · obtain ⟨cs, hlen, hok, hat⟩ := hc i hi
      simp only [Sh.ok, Sh.okAll] at hok
      obtain ⟨_, ⟨x, e1, w1⟩, ⟨y, e2, w2⟩, ⟨z, e3, w3⟩, _⟩ := hok
      have hl2 : ∃ c0 c1 c2, cs = [c0, c1, c2] := by
        match cs, hlen with
        | [c0, c1, c2], _ => exact ⟨c0, c1, c2, rfl⟩
      obtain ⟨c0, c1, c2, rfl⟩ := hl2
      simp at e1 e2 e3
      subst e1 e2 e3
      exact ⟨(x, y, z), fun _ => ⟨hat 0 (by omega), hat 1 (by omega), hat 2 (by omega), w2, w3⟩⟩
    · exact ⟨(0, .empty, 0), fun h => absurd h hi⟩
  exact ⟨b, off, fun i => (h i).choose, hl, hm, hA, fun i hi => (h i).choose_spec hi⟩
theorem Acts.keep {w w' : World} {A : Option Addr} {len b off : Nat} {xs : Nat → A3} (h : Acts w A len b off xs) (hb : Below w.heap.size w w') : Acts w' A len b off xs :=
  ⟨fun hl => ⟨(h.1 hl).1, Nat.lt_of_lt_of_le (h.1 hl).2 hb.size⟩, fun i hi => by
    obtain ⟨h1, h2, h3, h4⟩ := h.2 i hi
    have hlt := (h.1 (by omega)).2
    exact ⟨by rw [hb.cell (p := ⟨b, _, none⟩) hlt]; exact h1, by rw [hb.cell (p := ⟨b, _, none⟩) hlt]; exact h2, by rw [hb.cell (p := ⟨b, _, none⟩) hlt]; exact h3, h4⟩⟩
def LightP (len : Nat) (xs : Nat → A3) (e : Ending) : Prop := ∃ bb, e = .returned (.bool bb) ∧ (bb = true → len ≤ 80 ∧ ∀ i, i < len → (xs i).2.1.size ≤ 40)
theorem light_any (w : World) (A : Option Addr) (len cap b off : Nat) (xs : Nat → A3) (hl : len ≤ cap) (hm : cap ≤ maxLen) (hA : Acts w A len b off xs) :
    Calls Try.prog 8 #[.slice A len cap] w fun e w' => LightP len xs e ∧ w' = w := by
  have HA := Lib.hid hA
  unfold maxLen at hm
  by_cases h80 : len > 80
  · have hI : (len : Int) > 80 := by omega
    clear hA
    go_enter Try.func8, Try.ntmps8
    go_wp2
    go_ret
    exact ⟨⟨false, rfl, fun e => by cases e⟩, rfl⟩
  · have hI : ¬ (len : Int) > 80 := by omega
    clear hA
    go_enter Try.func8, Try.ntmps8
    go_wp2_with fail
    go_loop [3] (fun i => ∃ q : Nat, q ≤ len ∧ i = .int .i64 (q : Int) ∧ ∀ j, j < q → (xs j).2.1.size ≤ 40) (fun i => len - (intOf i).toNat)
    case atStart => exact ⟨0, Nat.zero_le _, rfl, fun j hj => absurd hj (Nat.not_lt_zero _)⟩
    case round =>
      obtain ⟨q, hq, rfl, hsk⟩ := hrel
      have HS := Lib.hid hsk
      clear hsk
      by_cases hql : q < len
      · obtain ⟨d0, d1, d2, d3, _⟩ := HA.out.2 q hql
        obtain rfl := (HA.out.1 (by omega)).1
        have hqI : (q : Int) < (len : Int) := by omega
        obtain ⟨kk, hkk⟩ : ∃ kk, (xs q).2.1 = kk := ⟨_, rfl⟩
        rw [hkk] at d1 d3
        have HK := Lib.hid hkk
        clear hkk d0 d2
        by_cases h40 : kk.size > 40
        · have hkI : (kk.size : Int) > 40 := by omega
          go_wp2
          go_ret
          exact ⟨⟨false, rfl, fun e => by cases e⟩, rfl⟩
        · have hkI : ¬ (kk.size : Int) > 40 := by omega
          go_wp2
          go_round
          case rel => exact ⟨q + 1, by omega, by go_num, fun j hj => by
            by_cases e : j = q
            · subst e; rw [HK.out]; omega
            · exact HS.out j (by omega)⟩
          case measure => simp [intOf]; omega
      · obtain rfl : q = len := by omega
        clear hql
        go_wp2
        go_ret
        exact ⟨⟨true, rfl, fun _ => ⟨by omega, HS.out⟩⟩, rfl⟩
/-- A slice of texts. -/
def Sl (w : World) (A : Option Addr) (cap g : Nat) (l : List ByteArray) : Prop := l.length ≤ cap ∧ ∀ j x, l[j]? = some x → A = some ⟨g, 0, none⟩ ∧ g < w.heap.size ∧ w.cell? ⟨g, j, none⟩ = some (.string x)
def svs (l : List ByteArray) : List Value := l.map Value.string
theorem Sl.below {w w' : World} {A : Option Addr} {cap g : Nat} {l : List ByteArray} (h : Sl w A cap g l) (hb : Below w.heap.size w w') : Sl w' A cap g l :=
  ⟨h.1, fun j x hj => by
    obtain ⟨h1, h2, h3⟩ := h.2 j x hj
    exact ⟨h1, Nat.lt_of_lt_of_le h2 hb.size, by rw [hb.cell (p := ⟨g, _, none⟩) h2]; exact h3⟩⟩
theorem sl_row {w : World} {B : Nat} {V : Value} {l : List ByteArray} (h : w.ownsRow B 9 1 V l.length (svs l)) : ∃ A cap g, V = .slice A l.length cap ∧ Sl w A cap g l := by
  obtain ⟨h0, ⟨rfl, e⟩ | ⟨b, cap, cur, rfl, e2, e3, e4, e5, e6, e7⟩⟩ := h
  · refine ⟨none, 0, 0, by rw [e], by omega, fun j x hj => ?_⟩
    rw [List.length_eq_zero_iff.1 e] at hj
    cases hj
  · refine ⟨_, cap, b, rfl, e4, fun j x hj => ⟨rfl, ?_, ?_⟩⟩
    · rcases Nat.lt_or_ge b w.heap.size with hlt | hge
      · exact hlt
      · rw [Array.getElem?_eq_none hge] at e3; cases e3
    · rw [cell_of_row w b j cur 9 (0, 0) e3]
      have hl := (List.getElem?_eq_some_iff.1 hj).1
      have hv : (svs l)[j]? = some (.string x) := by unfold svs; rw [List.getElem?_map, hj]; rfl
      rw [← e7, List.getElem?_take, if_pos (by omega)] at hv
      rw [← Array.getElem?_toList]; exact hv
theorem row9_keep {W w2 : World} {B : Nat} {v : Value} {n : Nat} {vs : List Value} (h : W.ownsRow B 9 1 v n vs) (hb : ∀ j, v.ownBlock = some j → w2.heap[j]? = W.heap[j]?) : w2.ownsRow B 9 1 v n vs := by
  obtain ⟨h0, h3 | ⟨b, cap, cur, e1, e2, e3, e4⟩⟩ := h
  · exact ⟨h0, .inl h3⟩
  · exact ⟨h0, .inr ⟨b, cap, cur, e1, e2, (hb b (by rw [e1]; rfl)).trans e3, e4⟩⟩
def lplace (k : ByteArray) : List ByteArray → Nat × Bool
  | [] => (0, false)
  | x :: l => if klt x k = true then ((lplace k l).1 + 1, (lplace k l).2) else (0, decide (x = k))
theorem lplace_skip (k : ByteArray) : ∀ (l : List ByteArray) (q : Nat), q ≤ l.length → (∀ x ∈ l.take q, klt x k = true) → lplace k l = ((lplace k (l.drop q)).1 + q, (lplace k (l.drop q)).2)
  | l, 0, _, _ => rfl
  | [], q + 1, h, _ => absurd h (by simp)
  | x :: l, q + 1, h, hs => by
    have hx : klt x k = true := hs x (by simp)
    conv => lhs; unfold lplace
    rw [if_pos hx, lplace_skip k l q (by simpa using h) (fun y hy => hs y (by simp [hy]))]
    simp only [List.drop_succ_cons]
    rfl
theorem lplace_le (k : ByteArray) : ∀ l : List ByteArray, (lplace k l).1 ≤ l.length
  | [] => Nat.le_refl _
  | x :: l => by
    unfold lplace
    have := lplace_le k l
    split
    · simp only [List.length_cons]; omega
    · exact Nat.zero_le _
set_option maxHeartbeats 2000000 in
theorem place_any (w : World) (A : Option Addr) (cap g : Nat) (l : List ByteArray) (hS : Sl w A cap g l) (hn : l.length ≤ 1000000) (k : ByteArray) (r : Nat × Bool) (hr : lplace k l = r) :
    Calls Try.prog 10 #[.slice A l.length cap, .string k] w fun e w' => e = .returned (.tuple #[.int .i64 (r.1 : Int), .bool r.2]) ∧ Below w.heap.size w w' := by
  have HS := Lib.hid hS
  have HR := Lib.hid hr
  obtain ⟨n, hnn⟩ : ∃ n, l.length = n := ⟨_, rfl⟩
  have HN := Lib.hid hnn
  rw [hnn] at hn ⊢
  have hnI : (n : Int) ≤ 1000000 := by omega
  clear hS hr hnn
  go_enter Try.func10, Try.ntmps10
  go_wp2_with fail
  go_loopw [6] (fun i wr => ∃ q : Nat, q ≤ n ∧ i = .int .i64 (q : Int) ∧ (∀ x ∈ l.take q, klt x k = true) ∧ Below w.heap.size w wr) (fun i _ => n - (intOf i).toNat)
  case atStart => exact ⟨0, Nat.zero_le _, rfl, by simp, Below.refl _ _⟩
  case round =>
    obtain ⟨q, hq, rfl, hsk, hb⟩ := hrel
    have HK := Lib.hid hsk
    have HB := Lib.hid hb
    clear hsk hb
    by_cases hql : q < n
    · obtain ⟨x, hx⟩ : ∃ x, l[q]? = some x := ⟨l[q]'(by rw [HN.out]; exact hql), List.getElem?_eq_getElem _⟩
      obtain ⟨rfl, hgl, d0⟩ := (HS.out.below HB.out).2 q x hx
      have d0d : wr.drew.cell? ⟨g, q, none⟩ = some (.string x) := d0
      have HX := Lib.hid hx
      have hqI : (q : Int) < (n : Int) := by omega
      clear hx
      by_cases hk : klt x k = true
      · have hkb : Op.bytesLess x.toList k.toList = true := hk
        have HK2 := Lib.hid (show ∀ y ∈ l.take (q + 1), klt y k = true from fun y hy => by
          rw [List.take_add_one, HX.out] at hy
          rcases List.mem_append.1 hy with e | e
          · exact HK.out y e
          · simp at e; rw [e]; exact hk)
        clear hk
        go_wp2
        go_roundw
        case rel => exact ⟨q + 1, by omega, by go_num, HK2.out, HB.out⟩
        case measure => simp [intOf]; omega
      · have hkb : Op.bytesLess x.toList k.toList = false := by have : klt x k = false := by simpa using hk
                                                                exact this
        have HR2 := Lib.hid (show r = (q, decide (x = k)) from by
          have e := lplace_skip k l q (by rw [HN.out]; exact hq) HK.out
          rw [← HR.out, e, List.drop_eq_getElem_cons (by rw [HN.out]; exact hql)]
          have e2 : l[q]'(by rw [HN.out]; exact hql) = x := by have := HX.out; rw [List.getElem?_eq_getElem (by rw [HN.out]; exact hql)] at this; exact Option.some.inj this
          unfold lplace
          rw [e2, if_neg hk]
          simp)
        have hr2 := HR2.out
        subst hr2
        clear hk
        go_wp2_with fail
        go_region
        all_goals (
          go_wp2
          go_ret2
          refine ⟨?_, HB.out.drew⟩
          first | rfl | (simp only [keq]; rfl))
    · obtain rfl : n = q := by omega
      have HR2 := Lib.hid (show r = (n, false) from by
        have e := lplace_skip k l n (by rw [HN.out]; exact hq) HK.out
        rw [← HR.out, e, List.drop_of_length_le (by rw [HN.out]; exact Nat.le_refl _)]
        simp [lplace])
      have hr2 := HR2.out
      subst hr2
      clear hql
      go_wp2
      go_ret2
      exact ⟨rfl, HB.out⟩
set_option maxHeartbeats 2000000 in
theorem texts_same {w : World} {A B : Option Addr} {capA capB ga gb : Nat} {l : List ByteArray} (h : Sl w A capA ga l) (k : Sl w B capB gb l) (hn : l.length ≤ 1000000) : Calls Try.prog 16 #[.slice A l.length capA, .slice B l.length capB] w fun e w' => e = .returned (.bool true) ∧ Below w.heap.size w w' := by
  have HA := Lib.hid h
  have HB := Lib.hid k
  obtain ⟨n, hnn⟩ : ∃ n, l.length = n := ⟨_, rfl⟩
  have HN := Lib.hid hnn
  rw [hnn] at hn ⊢
  have hnI : (n : Int) ≤ 1000000 := by omega
  clear h k hnn
  go_enter Try.func16, Try.ntmps16
  go_wp2_with fail
  go_loopw [5] (fun i wr => ∃ q : Nat, q ≤ n ∧ i = .int .i64 (q : Int) ∧ Below w.heap.size w wr) (fun i _ => n - (intOf i).toNat)
  case atStart => exact ⟨0, Nat.zero_le _, rfl, Below.refl _ _⟩
  case round =>
    obtain ⟨q, hq, rfl, hb⟩ := hrel
    have HQ := Lib.hid hb
    clear hb
    by_cases hql : q < n
    · obtain ⟨x, hx⟩ : ∃ x, l[q]? = some x := ⟨l[q]'(by rw [HN.out]; exact hql), List.getElem?_eq_getElem _⟩
      obtain ⟨rfl, hgl, d0⟩ := (HA.out.below HQ.out).2 q x hx
      obtain ⟨rfl, hgl2, d1⟩ := (HB.out.below HQ.out).2 q x hx
      have hqI : (q : Int) < (n : Int) := by omega
      clear hx
      go_wp2_with fail
      go_region
      all_goals (
        go_wp2
        go_roundw
        case rel => exact ⟨q + 1, by omega, by go_num, HQ.out.drew⟩
        case measure => simp [intOf]; omega)
    · obtain rfl : n = q := by omega
      clear hql
      go_wp2
      go_ret
      exact ⟨rfl, HQ.out⟩
end Go.Proofs.Ytmapfbnfcbkjpaa
