/- The reference's lock: two rows of two cells each; State. -/
import Derived.Test.YtkhlimlcnlalgaaKm
namespace Go.Proofs.Ytkhlimlcnlalgaa
open Go.RowKit Go.Maps
open Go.ChangeShapes Go.ChangeAt
set_option linter.unusedVariables false
set_option linter.unusedSimpArgs false
set_option maxRecDepth 100000
theorem info48 : (Try.prog.info? 48).map (fun i => (i.zero, i.size, i.bytes)) = some (some (.agg #[.int .i64 0, .bool false]), 2, 16) := by kernel_rfl
def cells2 (p : Pq) : List Value := [.int .i64 p.1, .bool (p.2 == 3)]
def rcells (Q : List Pq) : List Value := Q.flatMap cells2
theorem rcells_len : ∀ Q : List Pq, (rcells Q).length = Q.length * 2
  | [] => rfl
  | p :: Q => by
    unfold rcells
    rw [List.flatMap_cons, List.length_append]
    have := rcells_len Q
    unfold rcells at this
    rw [this, List.length_cons]
    show 2 + _ = _
    omega
theorem rcells_get : ∀ (Q : List Pq) (j r : Nat) (p : Pq), Q[j]? = some p → r < 2 → (rcells Q)[j * 2 + r]? = (cells2 p)[r]?
  | [], j, r, p, h, _ => by simp at h
  | t :: Q, 0, r, p, h, hr => by
    cases h
    unfold rcells
    rw [List.flatMap_cons, List.getElem?_append_left (by show 0 * 2 + r < 2; omega)]
    congr 1; omega
  | t :: Q, j + 1, r, p, h, hr => by
    unfold rcells
    rw [List.flatMap_cons, List.getElem?_append_right (by show 2 ≤ _; omega)]
    have := rcells_get Q j r p (by simpa using h) hr
    unfold rcells at this
    rw [← this]
    congr 1
    show (j + 1) * 2 + r - 2 = _
    omega
theorem rcells_append (Q Y : List Pq) : rcells (Q ++ Y) = rcells Q ++ rcells Y := by unfold rcells; rw [List.flatMap_append]
/-- Some row, in whatever memory: what stands in it. -/
theorem row2_slice {w : World} {B : Nat} {V : Value} {n : Nat} {vs : List Value} (h : w.ownsRow B 48 2 V n vs) (hn : 0 < n) : ∃ g cap, V = .slice (some ⟨g, 0, none⟩) n cap ∧ n ≤ cap ∧ cap ≤ maxLen ∧ g < w.heap.size ∧ B ≤ g ∧ ∀ j u, vs[j]? = some u → w.cell? ⟨g, j, none⟩ = some u ∧ w.frozen? ⟨g, j, none⟩ = false := by
  obtain ⟨h0, ⟨_, h2⟩ | ⟨b, cap, cur, rfl, e2, e3, e4, e5, e6, e7⟩⟩ := h
  · omega
  · have hlt : b < w.heap.size := by
      rcases Nat.lt_or_ge b w.heap.size with hlt | hge
      · exact hlt
      · rw [Array.getElem?_eq_none hge] at e3; cases e3
    refine ⟨b, cap, rfl, e4, e5, hlt, e2, fun j u hj => ⟨?_, by simp [World.frozen?, e3]⟩⟩
    rw [cell_of_row w b j cur 48 (0, 0) e3]
    have hl := (List.getElem?_eq_some_iff.1 hj).1
    rw [← e7, List.getElem?_take, if_pos (by omega)] at hj
    rw [← Array.getElem?_toList]; exact hj
theorem row2_keep {W w2 : World} {B : Nat} {v : Value} {n : Nat} {vs : List Value} (h : W.ownsRow B 48 2 v n vs) (hb : ∀ j, v.ownBlock = some j → w2.heap[j]? = W.heap[j]?) : w2.ownsRow B 48 2 v n vs := by
  obtain ⟨h0, h3 | ⟨b, cap, cur, e1, e2, e3, e4⟩⟩ := h
  · exact ⟨h0, .inl h3⟩
  · exact ⟨h0, .inr ⟨b, cap, cur, e1, e2, (hb b (by rw [e1]; rfl)).trans e3, e4⟩⟩
theorem row2_sl {w : World} {B : Nat} {V : Value} {n : Nat} {vs : List Value} (h : w.ownsRow B 48 2 V n vs) : ∃ A cap, V = .slice A n cap ∧ n ≤ cap := by
  obtain ⟨_, ⟨rfl, e⟩ | ⟨g, cap, cur, rfl, _, _, e, _⟩⟩ := h
  · exact ⟨none, 0, by rw [e], by omega⟩
  · exact ⟨_, cap, rfl, e⟩
theorem row2_at {w : World} {B : Nat} {V : Value} {Q : List Pq} (h : w.ownsRow B 48 2 V Q.length (rcells Q)) {j : Nat} {p : Pq} (hj : Q[j]? = some p) : ∃ g cap, V = .slice (some ⟨g, 0, none⟩) Q.length cap ∧ Q.length ≤ cap ∧ g < w.heap.size ∧ w.cell? ⟨g, j * 2, none⟩ = some (.int .i64 p.1) ∧ w.cell? ⟨g, j * 2 + 1, none⟩ = some (.bool (p.2 == 3)) := by
  have hl := (List.getElem?_eq_some_iff.1 hj).1
  obtain ⟨b, cap, rfl, h1, h2, h3, h4, h5⟩ := row2_slice h (by omega)
  exact ⟨b, cap, rfl, h1, h3, (h5 _ _ (rcells_get Q j 0 p hj (by omega))).1, (h5 _ _ (rcells_get Q j 1 p hj (by omega))).1⟩
structure Rk (w : World) (g C : Nat) (Vi Vq : Value) (Q H : List Pq) : Prop where
  box : Blk w g 29 #[Vi, Vq]
  i : w.ownsRow C 48 2 Vi H.length (rcells H)
  q : w.ownsRow C 48 2 Vq Q.length (rcells Q)
  ni : Vi.ownBlock ≠ some g
  nq : Vq.ownBlock ≠ some g
  ap : ∀ j, Vi.ownBlock = some j → Vq.ownBlock ≠ some j
  ge : C ≤ g
theorem lkh_skip {x : Int} : ∀ {H : List Pq} {q : Nat} {p : Pq}, (∀ t ∈ H.take q, t.1 ≠ x) → H[q]? = some p → p.1 = x → lkh x H = some p.2
  | [], q, p, _, h, _ => by simp at h
  | t :: H, 0, p, _, h, hx => by
    cases h
    unfold lkh
    rw [if_pos hx]
  | t :: H, q + 1, p, h1, h, hx => by
    have e : t.1 ≠ x := h1 t (by simp)
    unfold lkh
    rw [if_neg e]
    exact lkh_skip (fun r hr => h1 r (by rw [List.take_succ_cons]; exact List.mem_cons_of_mem _ hr)) (by simpa using h) hx
theorem lkh_none_of {x : Int} : ∀ {H : List Pq}, (∀ t ∈ H, t.1 ≠ x) → lkh x H = none
  | [], _ => rfl
  | t :: H, h => by
    unfold lkh
    rw [if_neg (h t List.mem_cons_self)]
    exact lkh_none_of (fun r hr => h r (List.mem_cons_of_mem _ hr))
theorem take_skip {x : Int} {H : List Pq} {q : Nat} {p : Pq} (h : ∀ t ∈ H.take q, t.1 ≠ x) (hq : H[q]? = some p) (hp : p.1 ≠ x) : ∀ t ∈ H.take (q + 1), t.1 ≠ x := by
  intro t ht
  rw [List.take_add_one, hq] at ht
  rcases List.mem_append.1 ht with ht | ht
  · exact h t ht
  · simp at ht
    rw [ht]; exact hp
section
variable {w W : World} {g C : Nat} {Vi Vq : Value} {Q H : List Pq}
theorem Rk.kept (h : Rk w g C Vi Vq Q H) (hb : Below w.heap.size w W) : Rk W g C Vi Vq Q H :=
  ⟨(hb.block g h.box.lt).trans h.box, row2_keep h.i (fun j hj => hb.block j (h.i.lt j hj).2), row2_keep h.q (fun j hj => hb.block j (h.q.lt j hj).2), h.ni, h.nq, h.ap, h.ge⟩
set_option maxHeartbeats 4000000 in
theorem rstate_any (h : Rk w g C Vi Vq Q H) (hn : H.length + Q.length ≤ 1000000) (hw : ∀ p ∈ H, p.2 = 2 ∨ p.2 = 3) (x : Int) : Calls Try.prog 15 #[.pointer (some ⟨g, 0, none⟩), .int .i64 x] w fun e w' => e = .returned (.int .i64 (stL Q H x)) ∧ w' = w := by
  have c0 := h.box.cell 0
  have c1 := h.box.cell 1
  obtain ⟨Ai, ci, hVi, _⟩ := row2_sl h.i
  obtain ⟨Aq, cq, hVq, _⟩ := row2_sl h.q
  subst hVi hVq
  have HR := Lib.hid h
  have HW := Lib.hid hw
  have hnI : (H.length : Int) ≤ 1000000 := by omega
  have hnQ : (Q.length : Int) ≤ 1000000 := by omega
  obtain ⟨r, hr⟩ : ∃ r, stL Q H x = r := ⟨_, rfl⟩
  have HL := Lib.hid hr
  rw [hr]
  clear h hw hr
  go_enter Try.func15, Try.ntmps15
  go_wp2
  go_loop [5] (fun i => ∃ q : Nat, q ≤ H.length ∧ i = .int .i64 (q : Int) ∧ ∀ t ∈ H.take q, t.1 ≠ x) (fun i => H.length - (intOf i).toNat)
  case atStart => exact ⟨0, Nat.zero_le _, rfl, by simp⟩
  case round =>
    obtain ⟨q, hq, rfl, hsk⟩ := hrel
    have HS := Lib.hid hsk
    clear hsk
    by_cases hql : q < H.length
    · obtain ⟨p, hp⟩ : ∃ p, H[q]? = some p := ⟨H[q], List.getElem?_eq_getElem _⟩
      obtain ⟨gi, cap, e0, _, hgl, d0, d1⟩ := row2_at HR.out.i hp
      cases e0
      have hqI : (q : Int) < (H.length : Int) := by omega
      have HP := Lib.hid hp
      have hp2 := HW.out p (List.mem_of_getElem? hp)
      obtain ⟨y, v⟩ := p
      simp only at d0 d1 hp2
      clear hp
      by_cases hy : y = x
      · have HK := Lib.hid (show stL Q H x = v from by unfold stL; rw [lkh_skip HS.out HP.out hy])
        subst hy
        rcases hp2 with rfl | rfl
        · have d1 : w.cell? ⟨gi, q * 2 + 1, none⟩ = some (.bool false) := d1
          go_wp2
          go_ret
          rw [show r = _ from HL.out.symm.trans HK.out]
          exact ⟨rfl, rfl⟩
        · have d1 : w.cell? ⟨gi, q * 2 + 1, none⟩ = some (.bool true) := d1
          go_wp2
          go_ret
          rw [show r = _ from HL.out.symm.trans HK.out]
          exact ⟨rfl, rfl⟩
      · have hyb : (y == x) = false := by simpa using hy
        have HS2 := Lib.hid (take_skip HS.out HP.out hy)
        clear hp2
        go_wp2
        go_round
        case rel => exact ⟨q + 1, by omega, by go_num, HS2.out⟩
        case measure => simp [intOf]; omega
    · obtain rfl : q = H.length := by omega
      have HN := Lib.hid (lkh_none_of (x := x) (H := H) (fun t ht => HS.out t (by rw [List.take_length]; exact ht)))
      clear hql
      go_wp2_with fail
      go_loop [6] (fun i => ∃ q : Nat, q ≤ Q.length ∧ i = .int .i64 (q : Int) ∧ ∀ t ∈ Q.take q, t.1 ≠ x) (fun i => Q.length - (intOf i).toNat)
      case atStart => exact ⟨0, Nat.zero_le _, rfl, by simp⟩
      case round =>
        obtain ⟨q, hq, rfl, hsk⟩ := hrel
        have HS3 := Lib.hid hsk
        clear hsk
        by_cases hql : q < Q.length
        · obtain ⟨p, hp⟩ : ∃ p, Q[q]? = some p := ⟨Q[q], List.getElem?_eq_getElem _⟩
          obtain ⟨gi, cap, e0, _, hgl, d0, d1⟩ := row2_at HR.out.q hp
          cases e0
          have hqI : (q : Int) < (Q.length : Int) := by omega
          have HP := Lib.hid hp
          obtain ⟨y, v⟩ := p
          simp only at d0 d1
          clear hp d1
          by_cases hy : y = x
          · have HK := Lib.hid (show stL Q H x = 1 from by
              unfold stL
              rw [HN.out, qhas_iff.2 (List.mem_map.2 ⟨(y, v), List.mem_of_getElem? HP.out, hy⟩)]
              rfl)
            subst hy
            go_wp2
            go_ret
            rw [show r = _ from HL.out.symm.trans HK.out]
            exact ⟨rfl, rfl⟩
          · have hyb : (y == x) = false := by simpa using hy
            have HS2 := Lib.hid (take_skip HS3.out HP.out hy)
            go_wp2
            go_round
            case rel => exact ⟨q + 1, by omega, by go_num, HS2.out⟩
            case measure => simp [intOf]; omega
        · obtain rfl : q = Q.length := by omega
          have HK := Lib.hid (show stL Q H x = 0 from by
            unfold stL
            rw [HN.out, qhas_none (fun t ht => HS3.out t (by rw [List.take_length]; exact ht))]
            rfl)
          go_wp2
          go_ret
          rw [show r = _ from HL.out.symm.trans HK.out]
          exact ⟨rfl, rfl⟩
end
end Go.Proofs.Ytkhlimlcnlalgaa
