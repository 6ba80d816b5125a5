/- The reference's lock: Queue, less. -/
import Derived.Test.YtkhlimlcnlalgaaPa
namespace Go.Proofs.Ytkhlimlcnlalgaa
open Go.RowKit Go.Maps
open Go.ChangeShapes Go.ChangeAt
set_option linter.unusedVariables false
set_option linter.unusedSimpArgs false
set_option maxRecDepth 100000
theorem keys_take {Q : List Pq} {q : Nat} {p : Pq} (hq : Q[q]? = some p) : keysOf (Q.take (q + 1)) = keysOf (Q.take q) ++ [p.1] := by
  unfold keysOf
  rw [List.take_add_one, hq, List.map_append]; rfl
theorem keys_take_len (Q : List Pq) (q : Nat) : (keysOf (Q.take q)).length ≤ Q.length := by
  unfold keysOf
  rw [List.length_map, List.length_take]; omega
theorem row2_alloc {W : World} {B : Nat} {v : Value} {n : Nat} {vs : List Value} (h : W.ownsRow B 48 2 v n vs) (o : Obj) : (W.alloc o).ownsRow B 48 2 v n vs := row2_keep h (fun j hj => Below.heap_alloc W o j (h.lt j hj).2)
section
variable {w W : World} {g C B : Nat} {Vi Vq V : Value} {Q H L : List Pq}
set_option maxHeartbeats 4000000 in
theorem rqueue_any (h : Rk w g C Vi Vq Q H) (hn : Q.length ≤ 1000) : Calls Try.prog 19 #[.pointer (some ⟨g, 0, none⟩)] w fun e w' => ∃ U, e = .returned U ∧ w'.ownsRow w.heap.size 3 1 U (keysOf Q).length (ivs (keysOf Q)) ∧ Below w.heap.size w w' := by
  obtain ⟨i0, hi, hz0, hz1, hz2⟩ := info_parts info3
  have HH := Lib.hid h
  have hnI : (Q.length : Int) ≤ 1000 := by omega
  have H0 := Lib.hid (Below.refl w.heap.size w)
  have HN := Lib.hid (show w.ownsRow w.heap.size 3 1 (.slice none 0 0) (keysOf (Q.take 0)).length (ivs (keysOf (Q.take 0))) from World.ownsRow_nil w _ 3 1)
  have c1 := h.box.cell 1
  obtain ⟨Aq, cq, hVq, _⟩ := row2_sl h.q
  subst hVq
  clear h
  go_enter Try.func19, Try.ntmps19
  go_wp2
  go_loopw [3, 4] (fun u i wr => ∃ q : Nat, q ≤ Q.length ∧ i = .int .i64 (q : Int) ∧ Below w.heap.size w wr ∧ wr.ownsRow w.heap.size 3 1 u (keysOf (Q.take q)).length (ivs (keysOf (Q.take q)))) (fun _ i _ => Q.length - (intOf i).toNat)
  case atStart => exact ⟨0, Nat.zero_le _, rfl, H0.out, HN.out⟩
  case round =>
    obtain ⟨q, hq, rfl, hb, hr⟩ := hrel
    have HB := Lib.hid hb
    have HR := Lib.hid hr
    have cq1 := (HH.out.kept hb).box.cell 1
    by_cases hql : q < Q.length
    · obtain ⟨p, hp⟩ : ∃ p, Q[q]? = some p := ⟨Q[q], List.getElem?_eq_getElem _⟩
      obtain ⟨gi, cap, e0, _, hgl, d0, d1⟩ := row2_at (HH.out.kept hb).q hp
      cases e0
      have hqI : (q : Int) < (Q.length : Int) := by omega
      have HT := Lib.hid (keys_take hp)
      have hkl := keys_take_len Q q
      obtain ⟨K, hK⟩ : ∃ K, keysOf (Q.take q) = K := ⟨_, rfl⟩
      rw [hK] at HR HT hkl
      obtain ⟨y, v⟩ := p
      simp only at d0 HT
      have hbs := hb.size
      clear hb hr hp hK d1 c1
      go_wp2_with (first
        | (at_builtin
           refine wpList_append_lies _ rfl (.tmp 14) (.tmp 23) 34 rfl w.heap.size 3 i0 _ 1 8 Try.underlying34 hi hz0 hz1 hz2 rfl (by decide) u3 K.length (ivs K) rfl (row_alloc HR.out _) ⟨wr.heap.size, 0, none⟩ 1 1 [.int .i64 y] rfl rfl (World.news_of_block (cs := #[.int .i64 y]) (t := 3) (fr := (0, 0)) (Blk.new wr 3 #[.int .i64 y])) (by simp [Value.oneCell']) (by decide) (by unfold maxLen; omega) (by omega) (by simp; omega) _ rfl ?_
           intro n1 k1 w4 hw hg hat hlt
           have HW4 := Lib.hid hw
           have HG4 := Lib.hid hg
           clear hw hg hat hlt)
        | fail)
      have HB4 := Lib.hid ((HB.out.alloc HB.out.size (.cells #[.int .i64 y] 3)).grown HG4.out (by have := HB.out.size; simp; omega) (fun j e => (HR.out.lt j e).1))
      go_roundw
      case rel => exact ⟨q + 1, by omega, by go_num, HB4.out, by rw [HT.out, ivs_snoc, List.length_append]; exact HW4.out⟩
      case measure => simp [intOf]; omega
    · obtain rfl : Q.length = q := by omega
      rw [List.take_length] at hr
      have HR2 := Lib.hid hr
      clear hb hr HR
      go_wp2
      go_ret
      exact ⟨_, rfl, HR2.out, HB.out⟩
set_option maxHeartbeats 4000000 in
theorem rless_any (h : w.ownsRow B 48 2 V L.length (rcells L)) (hn : L.length ≤ 1000) (x : Int) : Calls Try.prog 25 #[V, .int .i64 x] w fun e w' => ∃ A c, e = .returned (.slice A (delH L x).length c) ∧ w'.ownsRow w.heap.size 48 2 (.slice A (delH L x).length c) (delH L x).length (rcells (delH L x)) ∧ Below w.heap.size w w' := by
  obtain ⟨i0, hi, hz0, hz1, hz2⟩ := info_parts info48
  have HH := Lib.hid h
  have hnI : (L.length : Int) ≤ 1000 := by omega
  have H0 := Lib.hid (Below.refl w.heap.size w)
  have HN := Lib.hid (show w.ownsRow w.heap.size 48 2 (.slice none 0 0) (delH (L.take 0) x).length (rcells (delH (L.take 0) x)) from World.ownsRow_nil w _ 48 2)
  obtain ⟨A, c, hV, _⟩ := row2_sl h
  subst hV
  clear h
  go_enter Try.func25, Try.ntmps25
  go_wp2
  go_loopw [5, 6] (fun u i wr => ∃ q : Nat, q ≤ L.length ∧ i = .int .i64 (q : Int) ∧ Below w.heap.size w wr ∧ wr.ownsRow w.heap.size 48 2 u (delH (L.take q) x).length (rcells (delH (L.take q) x))) (fun _ i _ => L.length - (intOf i).toNat)
  case atStart => exact ⟨0, Nat.zero_le _, rfl, H0.out, HN.out⟩
  case round =>
    obtain ⟨q, hq, rfl, hb, hr⟩ := hrel
    have HB := Lib.hid hb
    have HR := Lib.hid hr
    by_cases hql : q < L.length
    · obtain ⟨p, hp⟩ : ∃ p, L[q]? = some p := ⟨L[q], List.getElem?_eq_getElem _⟩
      obtain ⟨gi, cap, e0, _, hgl, d0, d1⟩ := row2_at (row2_keep (w2 := wr) HH.out (fun j hj => hb.block j (HH.out.lt j hj).2)) hp
      cases e0
      have hqI : (q : Int) < (L.length : Int) := by omega
      have HT := Lib.hid (show delH (L.take (q + 1)) x = if p.1 != x then delH (L.take q) x ++ [p] else delH (L.take q) x from by
        unfold delH
        rw [List.take_add_one, hp, List.filter_append]
        show _ ++ List.filter _ [p] = _
        by_cases e : (p.1 != x) = true
        · rw [if_pos e, List.filter_cons, if_pos e]; rfl
        · rw [if_neg e, List.filter_cons, if_neg e, List.filter_nil, List.append_nil])
      have hkl : (delH (L.take q) x).length ≤ 1000 := by
        have : (delH (L.take q) x).length ≤ (L.take q).length := List.length_filter_le _ _
        rw [List.length_take] at this
        omega
      obtain ⟨K, hK⟩ : ∃ K, delH (L.take q) x = K := ⟨_, rfl⟩
      rw [hK] at HR HT hkl
      obtain ⟨y, v⟩ := p
      simp only at d0 d1 HT
      have hbs := hb.size
      obtain ⟨vb, hvb⟩ : ∃ vb, (v == 3) = vb := ⟨_, rfl⟩
      have HVB := Lib.hid hvb
      rw [hvb] at d1
      clear hb hr hp hK hvb
      cases he : (y != x) with
      | true =>
        rw [he] at HT
        go_wp2_with (first
          | (at_builtin
             refine wpList_append_lies _ rfl (.tmp 20) (.tmp 25) 27 rfl w.heap.size 48 i0 _ 2 16 Try.underlying27 hi hz0 hz1 hz2 rfl (by decide) u5 K.length (rcells K) rfl (row2_alloc HR.out _) ⟨wr.heap.size, 0, none⟩ 1 1 [.int .i64 y, .bool vb] rfl rfl (World.news_of_block (cs := #[.int .i64 y, .bool vb]) (t := 48) (fr := (0, 0)) (Blk.new wr 48 #[.int .i64 y, .bool vb])) (by simp [Value.oneCell']) (by decide) (by unfold maxLen; omega) (by omega) (by simp; omega) _ rfl ?_
             intro n1 k1 w4 hw hg hat hlt
             have HW4 := Lib.hid hw
             have HG4 := Lib.hid hg
             clear hw hg hat hlt)
          | fail)
        have HB4 := Lib.hid ((HB.out.alloc HB.out.size (.cells #[.int .i64 y, .bool vb] 48)).grown HG4.out (by have := HB.out.size; simp; omega) (fun j e => (HR.out.lt j e).1))
        go_roundw
        case rel => exact ⟨q + 1, by omega, by go_num, HB4.out, by rw [HT.out, if_pos rfl, rcells_append, List.length_append, show rcells [(y, v)] = [.int .i64 y, .bool vb] from by unfold rcells cells2; simp [HVB.out]]; exact HW4.out⟩
        case measure => simp [intOf]; omega
      | false =>
        rw [he] at HT
        go_wp2
        go_roundw
        case rel => exact ⟨q + 1, by omega, by go_num, HB.out, by rw [HT.out, if_neg (by decide)]; exact HR.out⟩
        case measure => simp [intOf]; omega
    · obtain rfl : L.length = q := by omega
      rw [List.take_length] at hr
      have HR2 := Lib.hid hr
      obtain ⟨A2, c2, hV2, _⟩ := row2_sl hr
      subst hV2
      clear hb hr HR
      go_wp2
      go_ret
      exact ⟨_, _, rfl, HR2.out, HB.out⟩
end
end Go.Proofs.Ytkhlimlcnlalgaa
