/- The law's own rows: without; cuts; the lock beside two rows. -/
import Derived.Test.YtkhlimlcnlalgaaKq
namespace Go.Proofs.Ytkhlimlcnlalgaa
open Go.RowKit Go.Maps
open Go.ChangeShapes Go.ChangeAt
set_option linter.unusedVariables false
set_option linter.unusedSimpArgs false
set_option maxRecDepth 100000
def wo (l : List Int) (x : Int) : List Int := l.filter fun y => y != x
theorem wo_len (l : List Int) (x : Int) : (wo l x).length ≤ l.length := List.length_filter_le _ _
set_option maxHeartbeats 4000000 in
theorem without_any {w : World} {A : Option Addr} {cap g off : Nat} {l : List Int} (h : No w A cap g off l) (hn : l.length ≤ 1000) (x : Int) : Calls Try.prog 20 #[.slice A l.length cap, .int .i64 x] w fun e w' => ∃ U, e = .returned U ∧ w'.ownsRow w.heap.size 3 1 U (wo l x).length (ivs (wo l x)) ∧ Below w.heap.size w w' := by
  obtain ⟨i0, hi, hz0, hz1, hz2⟩ := info_parts info3
  have HH := Lib.hid h
  have hle := h.le
  have hnI : (l.length : Int) ≤ 1000 := by omega
  have H0 := Lib.hid (Below.refl w.heap.size w)
  have HN := Lib.hid (show w.ownsRow w.heap.size 3 1 (.slice none 0 0) (wo (l.take 0) x).length (ivs (wo (l.take 0) x)) from World.ownsRow_nil w _ 3 1)
  clear h
  go_enter Try.func20, Try.ntmps20
  go_wp2
  go_loopw [5, 6] (fun u i wr => ∃ q : Nat, q ≤ l.length ∧ i = .int .i64 (q : Int) ∧ Below w.heap.size w wr ∧ wr.ownsRow w.heap.size 3 1 u (wo (l.take q) x).length (ivs (wo (l.take q) x))) (fun _ i _ => l.length - (intOf i).toNat)
  case atStart => exact ⟨0, Nat.zero_le _, rfl, H0.out, HN.out⟩
  case round =>
    obtain ⟨q, hq, rfl, hb, hr⟩ := hrel
    have HB := Lib.hid hb
    have HR := Lib.hid hr
    by_cases hql : q < l.length
    · obtain ⟨y, hy⟩ : ∃ y, l[q]? = some y := ⟨l[q], List.getElem?_eq_getElem _⟩
      obtain ⟨rfl, b1, e1⟩ := (HH.out.below hb).cell q y hy
      have hqI : (q : Int) < (l.length : Int) := by omega
      have HT := Lib.hid (show wo (l.take (q + 1)) x = if y != x then wo (l.take q) x ++ [y] else wo (l.take q) x from by
        unfold wo
        rw [List.take_add_one, hy, List.filter_append]
        show _ ++ List.filter _ [y] = _
        by_cases e : (y != x) = true
        · rw [if_pos e, List.filter_cons, if_pos e]; rfl
        · rw [if_neg e, List.filter_cons, if_neg e, List.filter_nil, List.append_nil])
      have hkl : (wo (l.take q) x).length ≤ 1000 := by have := wo_len (l.take q) x; rw [List.length_take] at this; omega
      obtain ⟨K, hK⟩ : ∃ K, wo (l.take q) x = K := ⟨_, rfl⟩
      rw [hK] at HR HT hkl
      have hbs := hb.size
      clear hb hr hy hK
      cases he : (y != x) with
      | true =>
        rw [he] at HT
        go_wp2_with (first
          | (at_builtin
             refine wpList_append_lies _ rfl (.tmp 19) (.tmp 24) 34 rfl w.heap.size 3 i0 _ 1 8 Try.underlying34 hi hz0 hz1 hz2 rfl (by decide) u5 K.length (ivs K) rfl (row_alloc HR.out _) ⟨wr.heap.size, 0, none⟩ 1 1 [.int .i64 y] rfl rfl (World.news_of_block (cs := #[.int .i64 y]) (t := 3) (fr := (0, 0)) (Blk.new wr 3 #[.int .i64 y])) (by simp [Value.oneCell']) (by decide) (by unfold maxLen; omega) (by omega) (by simp; omega) _ rfl ?_
             intro n1 k1 w4 hw hg hat hlt
             have HW4 := Lib.hid hw
             have HG4 := Lib.hid hg
             clear hw hg hat hlt)
          | fail)
        have HB4 := Lib.hid ((HB.out.alloc HB.out.size (.cells #[.int .i64 y] 3)).grown HG4.out (by have := HB.out.size; simp; omega) (fun j e => (HR.out.lt j e).1))
        go_roundw
        case rel => exact ⟨q + 1, by omega, by go_num, HB4.out, by rw [HT.out, if_pos rfl, ivs_snoc, List.length_append]; exact HW4.out⟩
        case measure => simp [intOf]; omega
      | false =>
        rw [he] at HT
        go_wp2
        go_roundw
        case rel => exact ⟨q + 1, by omega, by go_num, HB.out, by rw [HT.out, if_neg (by decide)]; exact HR.out⟩
        case measure => simp [intOf]; omega
    · obtain rfl : q = l.length := by omega
      rw [List.take_length] at hr
      have HR2 := Lib.hid hr
      clear hb hr HR
      go_wp2
      go_ret
      exact ⟨_, rfl, HR2.out, HB.out⟩
/-- The address behind a cut. -/
def cutA (A : Option Addr) (cap k : Nat) : Option Addr := if cap = k then A else A.map fun p => p.add k
theorem cut_to (A : Option Addr) (n cap k : Nat) (hk : k ≤ cap) (W : World) : (Instr.sliceAt 34 (.slice A n cap) none (some (.int .i64 (k : Int))) none).run Try.prog W = .ok (.slice A k cap) W := by
  rw [run_sliceAt_slice W 34 _ _ _ _ (by exact Try.underlying34), run_slice_h W 34 _ _ _ (by exact Try.underlying34) _ _ (by omega) (by omega)]
  have e : Try.prog.elem 34 = 3 := by kernel_rfl
  have e2 : (sizeOf 3).run Try.prog W = .ok 1 W := by kernel_rfl
  rw [e, e2]
  simp only [Result.andThen, sliced, Int.toNat_natCast, Nat.zero_mul, Nat.sub_zero]
  congr 2
  by_cases h : cap = 0
  · rw [if_pos h]
  · rw [if_neg h]
    cases A <;> rfl
theorem cut_from (A : Option Addr) (n cap k : Nat) (hk : k ≤ n) (W : World) : (Instr.sliceAt 34 (.slice A n cap) (some (.int .i64 (k : Int))) none none).run Try.prog W = .ok (.slice (cutA A cap k) (n - k) (cap - k)) W := by
  rw [run_sliceAt_slice W 34 _ _ _ _ (by exact Try.underlying34), run_slice_l W 34 _ _ _ (by exact Try.underlying34) _ _ (by omega) (by omega)]
  have e : Try.prog.elem 34 = 3 := by kernel_rfl
  have e2 : (sizeOf 3).run Try.prog W = .ok 1 W := by kernel_rfl
  rw [e, e2]
  simp only [Result.andThen, sliced, Int.toNat_natCast, Nat.mul_one, cutA]
theorem No.head {w : World} {A : Option Addr} {cap g off : Nat} {l1 l2 : List Int} (h : No w A cap g off (l1 ++ l2)) : No w A cap g off l1 :=
  ⟨by have := h.le; simp at this; omega, fun j x hj => h.cell j x (by rw [List.getElem?_append_left (List.getElem?_eq_some_iff.1 hj).1]; exact hj)⟩
theorem Ir.tail {w : World} {B : Nat} {A : Option Addr} {cap n : Nat} {l1 l2 : List Int} (h : Ir w B (.slice A n cap) (l1 ++ l2)) : Ir w B (.slice (cutA A cap l1.length) (n - l1.length) (cap - l1.length)) l2 ∧ ∀ j, (Value.slice (cutA A cap l1.length) (n - l1.length) (cap - l1.length)).ownBlock = some j → (Value.slice A n cap).ownBlock = some j := by
  rcases h with ⟨h, e⟩ | ⟨g, off, cap', cur, e, h1, h2, h3, h4, h5, h6⟩
  · cases h
    obtain ⟨rfl, rfl⟩ := List.append_eq_nil_iff.1 e
    exact ⟨.inl ⟨rfl, rfl⟩, fun j hj => hj⟩
  · cases e
    rw [List.length_append] at h3
    have hn : (l1 ++ l2).length - l1.length = l2.length := by simp
    unfold cutA
    by_cases hc : cap = l1.length
    · have h20 : l2.length = 0 := by omega
      have : l2 = [] := List.length_eq_zero_iff.1 h20
      subst this
      rw [if_pos hc]
      exact ⟨.inr ⟨g, off, cap - l1.length, cur, by rw [hn], h1, h2, Nat.zero_le _, by omega, by omega, fun j x hj => (by cases hj)⟩, fun j hj => hj⟩
    · have ea : (some (⟨g, off, none⟩ : Addr)).map (fun p => p.add l1.length) = some ⟨g, off + l1.length, none⟩ := by rw [Option.map_some, add_plain]
      rw [if_neg hc, ea]
      refine ⟨.inr ⟨g, off + l1.length, cap - l1.length, cur, by rw [hn], h1, h2, by omega, by omega, by omega, fun j x hj => ?_⟩, fun j hj => hj⟩
      have := h6 (l1.length + j) x (by rw [List.getElem?_append_right (by omega), Nat.add_sub_cancel_left]; exact hj)
      rw [Nat.add_assoc]; exact this
end Go.Proofs.Ytkhlimlcnlalgaa
