/- The lock: Queue, Holders. -/
import Derived.Test.YtkhlimlcnlalgaaKd
import Derived.Laws.MakeOwn
namespace Go.Proofs.Ytkhlimlcnlalgaa
open Go.RowKit Go.Maps
set_option linter.unusedVariables false
set_option linter.unusedSimpArgs false
set_option maxRecDepth 100000
def ivs (l : List Int) : List Value := l.map (Value.int .i64)
theorem ivs_snoc (l : List Int) (x : Int) : ivs (l ++ [x]) = ivs l ++ [.int .i64 x] := by unfold ivs; simp
theorem ivs_len (l : List Int) : (ivs l).length = l.length := by unfold ivs; simp
/-- The holders, rising. -/
def srtK (H : List Pq) : List Int := (keysOf H).mergeSort leI
theorem srtK_len (H : List Pq) : (srtK H).length = H.length := by unfold srtK keysOf; rw [List.length_mergeSort, List.length_map]
section
variable {w w' w2 : World} {R b B n : Nat} {V V' V2 : Value} {D D' : VD} {Q H : List Pq}
theorem Lb.oneH (h : Lb w R b B n V D Q H) : (keysOf H).Nodup := (List.nodup_append.1 h.one).1
theorem hold_any (h : Lb w R b B n V D Q H) (hn : n ≤ 1000) : Calls Try.prog 16 #[.pointer (some ⟨R, 0, none⟩)] w fun e w' => ∃ U, e = .returned U ∧ w'.ownsRow w.heap.size 3 1 U (srtK H).length (ivs (srtK H)) ∧ Below w.heap.size w w' := by
  have hp : (keysOf H).Perm (intKeys D) := perm_keys h.m h.oneH (fun x => by
    rw [h.d]
    constructor
    · intro hx
      obtain ⟨p, hp, rfl⟩ := List.mem_map.1 hx
      rw [Option.isSome_map]
      exact lkh_some_of ⟨p, hp, rfl⟩
    · intro hx
      rw [Option.isSome_map] at hx
      obtain ⟨v, hv⟩ := Option.isSome_iff_exists.1 hx
      exact List.mem_map.2 ⟨_, lkh_mem hv, rfl⟩)
  refine (holders_any h.box h.m (by have := h.sz; have := h.len; omega)).mono ?_
  rintro _ w' ⟨v, ss, rfl, h1, h2, h3⟩
  have e1 : ss.Perm (keysOf H) := h1.trans hp.symm
  have e2 : ss.mergeSort leI = srtK H := mergeSort_of_perm_i e1
  have e3 : ss.length = (srtK H).length := by rw [e1.length_eq, srtK_len]; unfold keysOf; rw [List.length_map]
  refine ⟨v, rfl, ?_, h3⟩
  rw [← e3, ← e2]
  exact h2
set_option maxHeartbeats 4000000 in
theorem queue_any (h : Lb w R b B n V D Q H) (hn : n ≤ 1000) : Calls Try.prog 18 #[.pointer (some ⟨R, 0, none⟩)] w fun e w' => ∃ U, e = .returned U ∧ w'.ownsRow w.heap.size 3 1 U (keysOf Q).length (ivs (keysOf Q)) ∧ Below w.heap.size w w' := by
  obtain ⟨i0, hi, hz0, hz1, hz2⟩ := info_parts info3
  have HH := Lib.hid h
  have hql : Q.length ≤ 1000 := by have := h.len; omega
  have hnI : (Q.length : Int) ≤ 1000 := by omega
  obtain ⟨w1, hmk, hrow1, hg1⟩ := run_make_own (P := Try.prog) w w.heap.size 34 3 i0 _ 1 Try.underlying34 hi hz0 hz1 .i64 .i64 Q.length (by rw [hz2]; omega) (by unfold maxLen; omega) (Nat.le_refl _)
  have HB1 := Lib.hid (show Below w.heap.size w w1 from ⟨hg1.os, hg1.tape, hg1.output, hg1.size, fun j hj => hg1.block j hj (by simp)⟩)
  have HR1 := Lib.hid hrow1
  have c0 := h.box.cell 0
  have c01 := (h.kept HB1.out).box.cell 0
  obtain ⟨A, cap, hV, hcap⟩ := h.q.sl
  subst hV
  clear h hg1 hrow1
  go_enter Try.func18, Try.ntmps18
  go_wp2
  go_loopw [3, 17] (fun u i wr => ∃ q : Nat, q ≤ Q.length ∧ i = .int .i64 (q : Int) ∧ Below w.heap.size w wr ∧ wr.ownsRow w.heap.size 3 1 u q (ivs (keysOf (Q.take q)))) (fun _ i _ => Q.length - (intOf i).toNat)
  case atStart => exact ⟨0, Nat.zero_le _, rfl, HB1.out, HR1.out⟩
  case round =>
    obtain ⟨q, hq, rfl, hb, hr⟩ := hrel
    have HB := Lib.hid hb
    have HR := Lib.hid hr
    by_cases hql2 : q < Q.length
    · obtain ⟨p, hp⟩ : ∃ p, Q[q]? = some p := ⟨Q[q], List.getElem?_eq_getElem _⟩
      obtain ⟨g, off, cap', e0, _, hgl, d1, d2⟩ := (HH.out.kept hb).q.at hp
      cases e0
      have hqI : (q : Int) < (Q.length : Int) := by omega
      have HT := Lib.hid (show keysOf (Q.take (q + 1)) = keysOf (Q.take q) ++ [p.1] from by unfold keysOf; rw [List.take_add_one, hp, List.map_append]; rfl)
      obtain ⟨K, hK⟩ : ∃ K, keysOf (Q.take q) = K := ⟨_, rfl⟩
      rw [hK] at HR HT
      obtain ⟨x, y⟩ := p
      simp only at d1 d2 HT
      clear hb hr hp hK
      go_wp2_with (first
        | (at_builtin
           refine wpList_append_lies _ rfl (.tmp 21) (.tmp 24) 34 rfl w.heap.size 3 i0 _ 1 8 Try.underlying34 hi hz0 hz1 hz2 rfl (by decide) u3 q (ivs K) rfl (row_alloc (row_alloc HR.out _) _) ⟨wr.heap.size + 1, 0, none⟩ 1 1 [.int .i64 x] rfl rfl (World.news_of_block (cs := #[.int .i64 x]) (t := 3) (fr := (0, 0)) (by have := Blk.new (wr.alloc (.cells #[.int .i64 x, .int .i64 y] 46)) 3 #[.int .i64 x]; rw [show (wr.alloc (.cells #[.int .i64 x, .int .i64 y] 46)).heap.size = wr.heap.size + 1 by simp] at this; exact this)) (by simp [Value.oneCell']) (by decide) (by unfold maxLen; omega) (by omega) (by have := HB.out.size; simp; omega) _ rfl ?_
           intro n1 k1 w4 hw hg hat hlt
           have HW4 := Lib.hid hw
           have HG4 := Lib.hid hg
           clear hw hg hat hlt)
        | fail)
      have HB4 := Lib.hid (((HB.out.alloc HB.out.size (.cells #[.int .i64 x, .int .i64 y] 46)).alloc (by have := HB.out.size; simp; omega) (.cells #[.int .i64 x] 3)).grown HG4.out (by have := HB.out.size; simp; omega) (fun j e => (HR.out.lt j e).1))
      go_roundw
      case rel => exact ⟨q + 1, by omega, by go_num, HB4.out, by rw [HT.out, ivs_snoc]; exact HW4.out⟩
      case measure => simp [intOf]; omega
    · obtain rfl : q = Q.length := by omega
      rw [List.take_length] at hr
      have HR2 := Lib.hid hr
      clear hb hr HR
      go_wp2
      go_ret
      refine ⟨_, rfl, ?_, HB.out⟩
      have : (keysOf Q).length = Q.length := by unfold keysOf; rw [List.length_map]
      rw [this]
      exact HR2.out
end
end Go.Proofs.Ytkhlimlcnlalgaa
