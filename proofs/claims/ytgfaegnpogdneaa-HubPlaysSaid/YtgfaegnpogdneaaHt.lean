/- The hub: Wake. -/
import Derived.Test.YtgfaegnpogdneaaHs
namespace Go.Proofs.Ytgfaegnpogdneaa
open Go.RowKit Go.Maps
open Go.Proofs
set_option linter.unusedVariables false
set_option linter.unusedSimpArgs false
set_option maxRecDepth 100000
/-- One is woken. -/
def wk1 (Z : List Slp) (x : Int) : List Slp := Z.map fun s => if s.who = x then ⟨s.who, s.place, true⟩ else s
def wkF (Z : List Slp) (l : List Int) : List Slp := l.foldl wk1 Z
theorem wk1_who (x : Int) (Z : List Slp) : (wk1 Z x).map Slp.who = Z.map Slp.who := by
  unfold wk1
  rw [List.map_map]
  congr 1
  funext s
  show (if s.who = x then _ else s).who = s.who
  split <;> rfl
theorem wk1_len (x : Int) (Z : List Slp) : (wk1 Z x).length = Z.length := by unfold wk1; rw [List.length_map]
theorem wk1_at (x : Int) (p : Int) : ∀ Z : List Slp, atL (wk1 Z x) p = atL Z p
  | [] => rfl
  | s :: Z => by
    have ih := wk1_at x p Z
    unfold atL wk1 at *
    rw [List.map_cons, List.filter_cons, List.filter_cons]
    have e1 : (if s.who = x then (⟨s.who, s.place, true⟩ : Slp) else s).place = s.place := by split <;> rfl
    have e2 : (if s.who = x then (⟨s.who, s.place, true⟩ : Slp) else s).who = s.who := by split <;> rfl
    rw [e1]
    split
    · rw [List.map_cons, List.map_cons, ih, e2]
    · exact ih
theorem wk1_look (x y : Int) : ∀ Z : List Slp, look y (wk1 Z x) = (look y Z).map fun s => if y = x then ⟨s.who, s.place, true⟩ else s
  | [] => rfl
  | s :: Z => by
    have ih := wk1_look x y Z
    unfold wk1 at *
    rw [List.map_cons]
    have e2 : (if s.who = x then (⟨s.who, s.place, true⟩ : Slp) else s).who = s.who := by split <;> rfl
    show (if (if s.who = x then (⟨s.who, s.place, true⟩ : Slp) else s).who = y then some (if s.who = x then (⟨s.who, s.place, true⟩ : Slp) else s) else look y _) = (if s.who = y then some s else look y Z).map _
    rw [e2]
    by_cases h : s.who = y
    · rw [if_pos h, if_pos h]; subst h; rfl
    · rw [if_neg h, if_neg h, ih]
theorem wk1_same {x : Int} : ∀ {Z : List Slp}, (Z.map Slp.who).Nodup → (∀ s, look x Z = some s → s.woken = true) → wk1 Z x = Z
  | [], _, _ => rfl
  | s :: Z, hn, h => by
    rw [List.map_cons, List.nodup_cons] at hn
    unfold wk1
    rw [List.map_cons]
    by_cases e : s.who = x
    · rw [if_pos e]
      have h1 : s.woken = true := h s (by unfold look; rw [if_pos e])
      have h2 : Z.map (fun s => if s.who = x then (⟨s.who, s.place, true⟩ : Slp) else s) = Z := by
        conv => rhs; rw [← List.map_id Z]
        apply List.map_congr_left
        intro t ht
        have : t.who ≠ x := fun e2 => hn.1 (List.mem_map.2 ⟨t, ht, e2.trans e.symm⟩)
        rw [if_neg this]; rfl
      rw [h2]
      obtain ⟨a, b, c⟩ := s
      simp only at h1
      rw [h1]
    · rw [if_neg e]
      have := wk1_same hn.2 (fun t ht => h t (by unfold look; rw [if_neg e]; exact ht))
      unfold wk1 at this
      rw [this]
theorem wkF_who (l : List Int) : ∀ Z : List Slp, (wkF Z l).map Slp.who = Z.map Slp.who := by
  induction l with
  | nil => intro Z; rfl
  | cons x l ih => intro Z; exact (ih (wk1 Z x)).trans (wk1_who x Z)
theorem wkF_at (p : Int) (l : List Int) : ∀ Z : List Slp, atL (wkF Z l) p = atL Z p := by
  induction l with
  | nil => intro Z; rfl
  | cons x l ih => intro Z; exact (ih (wk1 Z x)).trans (wk1_at x p Z)
theorem wkF_look (y : Int) (l : List Int) : ∀ Z : List Slp, look y (wkF Z l) = (look y Z).map fun s => if y ∈ l then ⟨s.who, s.place, true⟩ else s := by
  induction l with
  | nil => intro Z; show look y Z = _; cases look y Z <;> simp
  | cons x l ih =>
    intro Z
    show look y (wkF (wk1 Z x) l) = _
    rw [ih, wk1_look]
    cases look y Z with
    | none => rfl
    | some s =>
      simp only [Option.map_some, List.mem_cons]
      by_cases h1 : y = x
      · simp [h1]
      · by_cases h2 : y ∈ l
        · simp [h1, h2]
        · simp [h1, h2]
theorem wkF_snoc (Z : List Slp) (l : List Int) (x : Int) : wkF Z (l ++ [x]) = wk1 (wkF Z l) x := by unfold wkF; rw [List.foldl_append]; rfl
section
variable {w W : World} {R b1 b2 B n : Nat} {No : Nat → Prop} {Z : List Slp} {D1 D2 D4 : VD}
/-- The hub's own blocks. -/
def Mine (R b1 b2 : Nat) (D2 : VD) (j : Nat) : Prop := j = R ∨ j = b1 ∨ j = b2 ∨ ∃ p, (slc D2 p).ownBlock = some j
theorem Hb.off (h : Hb w R b1 b2 B No n Z D1 D2) (hsz : w.heap.size ≤ W.heap.size) (hk : ∀ j, Mine R b1 b2 D2 j → W.heap[j]? = w.heap[j]?) : Hb W R b1 b2 B No n Z D1 D2 :=
  { h with
    box := (hk R (.inl rfl)).trans h.box
    m1 := h.m1.off (hk b1 (.inr (.inl rfl)))
    m2 := h.m2.off (hk b2 (.inr (.inr (.inl rfl))))
    row := fun p => row_keep (h.row p) (fun j hj => hk j (.inr (.inr (.inr ⟨p, hj⟩))))
    noLt := fun j hj => Nat.lt_of_lt_of_le (h.noLt j hj) hsz }
theorem Hb.mine_lt (h : Hb w R b1 b2 B No n Z D1 D2) {j : Nat} (hj : Mine R b1 b2 D2 j) : j < w.heap.size := by
  have := h.lt
  rcases hj with rfl | rfl | rfl | ⟨p, hp⟩
  · omega
  · omega
  · omega
  · exact ((h.row p).lt j hp).2
theorem Hb.mine_no (h : Hb w R b1 b2 B No n Z D1 D2) {j : Nat} (hj : Mine R b1 b2 D2 j) : ¬ No j := by
  rcases hj with rfl | rfl | rfl | ⟨p, hp⟩
  · exact h.nR.1
  · exact h.nR.2.1
  · exact h.nR.2.2
  · exact (h.shun p j hp).2.2.2
theorem Hb.grown (h : Hb w R b1 b2 B No n Z D1 D2) {row : Option Nat} (hg : w.grownBy W row) (hr : ∀ j, row = some j → ¬ Mine R b1 b2 D2 j) : Hb W R b1 b2 B No n Z D1 D2 :=
  h.off hg.size (fun j hj => hg.block j (h.mine_lt hj) (fun e => hr j e.symm hj))
theorem wake_step (h : Hb w R b1 b2 B No n Z D1 D2) {x : Int} {s : Slp} (hs : look x Z = some s) (v1 : Vm W b1 (D1.put (.int .i64 x) (.held (sv ⟨s.who, s.place, true⟩)))) (hg : w.grownBy W (some b1)) : Hb W R b1 b2 B No n (wk1 Z x) (D1.put (.int .i64 x) (.held (sv ⟨s.who, s.place, true⟩))) D2 := by
  have i1 := h.m1.vd
  have hl := h.lt
  have hk : ∀ j, j < w.heap.size → j ≠ b1 → W.heap[j]? = w.heap[j]? := fun j hj hb => hg.block j hj (fun e => hb (Option.some.inj e))
  refine ⟨(hk R hl.1 h.ne.1).trans h.box, v1, h.m2.off (hk b2 hl.2.2 h.ne.2.2.symm), fun y => ?_, ?_, h.s2, by rw [wk1_len]; exact h.zn, by rw [wk1_who]; exact h.one, fun t ht => ?_, fun p => ?_, fun p hp => h.emp p (by rw [← wk1_at x]; exact hp), h.shun, h.apart, h.ne, h.nR, h.ge, fun j hj => Nat.lt_of_lt_of_le (h.noLt j hj) hg.size, h.noB⟩
  · rw [wk1_look]
    by_cases e : y = x
    · subst e
      rw [vl_put i1.tidy.isMap, hs]
      simp
    · rw [vl_put_ne e, h.d1]
      cases look y Z <;> simp [e]
  · rw [i1.size_put, slv h, hs, wk1_len, h.s1]
    rfl
  · obtain ⟨s0, hs0, rfl⟩ := List.mem_map.1 ht
    have := h.wfz s0 hs0
    split <;> exact this
  · rw [wk1_at]
    exact row_keep (h.row p) (fun j hj => hk j ((h.row p).lt j hj).2 (h.shun p j hj).2.1)
/-- Those who are woken anew. -/
def freshL (Z : List Slp) (l : List Int) : List Int := l.filter fun x => !wokenB Z x
theorem freshL_snoc (Z : List Slp) (l : List Int) (x : Int) : freshL Z (l ++ [x]) = if wokenB Z x = true then freshL Z l else freshL Z l ++ [x] := by
  unfold freshL
  rw [List.filter_append]
  by_cases h : wokenB Z x = true
  · rw [if_pos h]; simp [h]
  · rw [if_neg h]; simp [h]
theorem wk1_wf (h : Hb w R b1 b2 B No n Z D1 D2) (hn : n ≤ 1000) : Maps.size D1 ≤ 1000000 := by have := h.s1; have := h.zn; omega
set_option maxHeartbeats 8000000 in
theorem wake_any (h : Hb w R b1 b2 B No n Z D1 D2) (hn : n ≤ 1000) (p : Int) (hp : wf p) : Calls Try.prog 12 #[.pointer (some ⟨R, 0, none⟩), .int .i64 p] w fun e w' => ∃ V D3, e = .returned V ∧ Hb w' R b1 b2 B No n (wkF Z (atL Z p)) D3 D2 ∧ w'.ownsRow w.heap.size 3 1 V (freshL Z (atL Z p)).length (ivs (freshL Z (atL Z p))) ∧ Kp No w w' := by
  obtain ⟨i0, hi, hz0, hz1, hz2⟩ := info_parts info3
  have HH := Lib.hid h
  have c1 := h.c1
  have hlk := (h.m2.look Try.underlying44 (zero34 w) hp).2
  change _ = Result.ok (slc D2 p) w at hlk
  obtain ⟨V, hV⟩ : ∃ V, slc D2 p = V := ⟨_, rfl⟩
  have HVE := Lib.hid hV
  rw [hV] at hlk
  have hll : (atL Z p).length ≤ 1000 := by have := atL_len Z p; have := h.zn; omega
  obtain ⟨l, hlE⟩ : ∃ l, atL Z p = l := ⟨_, rfl⟩
  have HLE := Lib.hid hlE
  have hrow := h.row p
  rw [hV, hlE] at hrow
  have HROW := Lib.hid hrow
  have HND := Lib.hid (show l.Nodup from hlE ▸ atL_nodup h.one p)
  have hlen : ∃ A cap, V = .slice A l.length cap ∧ l.length ≤ cap := by
    obtain ⟨_, ⟨rfl, e⟩ | ⟨g, cap, cur, rfl, _, _, e, _⟩⟩ := hrow
    · exact ⟨none, 0, by rw [e], by omega⟩
    · exact ⟨_, cap, rfl, e⟩
  obtain ⟨A, cap, rfl, hlc⟩ := hlen
  rw [hlE] at hll ⊢
  have hll' : (l.length : Int) ≤ 1000 := by omega
  have HKP := Lib.hid (Kp.refl No w)
  have HP := Lib.hid hp
  clear h hV hlE hrow hp
  go_enter Try.func12, Try.ntmps12
  go_wp2
  go_loopw [5, 15] (fun u i wr => ∃ (q : Nat) (D3 : VD), q ≤ l.length ∧ i = .int .i64 (q : Int) ∧ Hb wr R b1 b2 B No n (wkF Z (l.take q)) D3 D2 ∧ wr.ownsRow w.heap.size 3 1 u (freshL Z (l.take q)).length (ivs (freshL Z (l.take q))) ∧ Kp No w wr) (fun _ i _ => l.length - (intOf i).toNat)
  case atStart => exact ⟨0, D1, Nat.zero_le _, rfl, HH.out, World.ownsRow_nil _ _ _ _, HKP.out⟩
  case round =>
    obtain ⟨q, D3, hq, rfl, hh, hr, hk⟩ := hrel
    have H3 := Lib.hid hh
    have HR := Lib.hid hr
    have HK := Lib.hid hk
    by_cases hql : q < l.length
    · obtain ⟨x, hx⟩ : ∃ x, l[q]? = some x := ⟨l[q], List.getElem?_eq_getElem hql⟩
      have hxm : x ∈ l := List.mem_of_getElem? hx
      obtain ⟨t, ht, htw, htp⟩ := atL_mem (show x ∈ atL Z p from HLE.out.symm ▸ hxm)
      have hwx : wf x := htw ▸ (HH.out.wfz t ht).1
      have hls : look x Z = some t := look_some_of HH.out.one t ht htw
      have hnt : x ∉ l.take q := fun hm => by
        obtain ⟨j, hj⟩ := List.getElem?_of_mem hm
        have hjq : j < q := by
          have := (List.getElem?_eq_some_iff.1 hj).1
          rw [List.length_take] at this
          omega
        rw [List.getElem?_take, if_pos hjq] at hj
        have hn := List.pairwise_iff_getElem.1 HND.out j q (by omega) hql hjq
        obtain ⟨_, e1⟩ := List.getElem?_eq_some_iff.1 hj
        obtain ⟨_, e2⟩ := List.getElem?_eq_some_iff.1 hx
        exact hn (e1.trans e2.symm)
      have hls3 : look x (wkF Z (l.take q)) = some t := by rw [wkF_look, hls]; simp [hnt]
      have hrow3 := hh.row p
      rw [HVE.out, wkF_at, HLE.out] at hrow3
      obtain ⟨g, cap', hA, _, _, hgl, _, hcell⟩ := row_slice hrow3 (by omega)
      cases hA
      have cx : wr.cell? ⟨g, q, none⟩ = some (.int .i64 x) := (hcell q _ (by unfold ivs; rw [List.getElem?_map, hx]; rfl)).1
      have c0 := hh.c0
      have hlk3 := (hh.m1.look Try.underlying43 (zero48 wr) hwx).2
      rw [hh.d1, hls3] at hlk3
      simp only [Option.map_some, Option.getD_some, sv] at hlk3
      have HT := Lib.hid (show l.take (q + 1) = l.take q ++ [x] from by rw [List.take_add_one, hx]; rfl)
      have HWX := Lib.hid hwx
      have HL3 := Lib.hid hls3
      have HWB := Lib.hid (show wokenB Z x = t.woken from by unfold wokenB; rw [hls])
      have hqI : (q : Int) < (l.length : Int) := by omega
      have hf1 := fun a b W => fld1 a b W
      have hfl : (freshL Z (l.take q)).length ≤ 1000 := by
        have h1 : (freshL Z (l.take q)).length ≤ (l.take q).length := List.length_filter_le _ _
        rw [List.length_take] at h1
        omega
      obtain ⟨tw, tp, tk⟩ := t
      simp only at hlk3 htw htp HWB
      subst htp
      have HTW := Lib.hid htw
      clear hh hr hk hx hxm ht htw hwx hls hnt hls3 hrow3 hgl hcell
      cases tk with
      | true =>
        have HSM := Lib.hid (show wk1 (wkF Z (l.take q)) x = wkF Z (l.take q) from wk1_same H3.out.one (fun s hs => by rw [HL3.out] at hs; cases hs; rfl))
        go_wp2
        go_roundw
        case rel => exact ⟨q + 1, D3, by omega, by go_num, by rw [HT.out, wkF_snoc, HSM.out]; exact H3.out, by rw [HT.out, freshL_snoc, if_pos HWB.out]; exact HR.out, HK.out⟩
        case measure => simp [intOf]; omega
      | false =>
        have hs1 := wk1_wf H3.out hn
        obtain ⟨K, hK⟩ : ∃ K, freshL Z (l.take q) = K := ⟨_, rfl⟩
        have HKE := Lib.hid hK
        rw [hK] at HR hfl
        clear hK
        go_wp2_with (first
          | (at_mapUpdate
             refine wpList_upd rfl _ _ _ 43 48 rfl Try.underlying43 b1 D3 H3.out.m1 hs1 rfl x HWX.out rfl (.agg #[.int .i64 tp, .bool true]) rfl ?_
             intro w2 hm hg hsz
             have H4 := Lib.hid (wake_step H3.out HL3.out hm hg)
             have HG := Lib.hid hg
             have HR2 := Lib.hid (row_kept HR.out hg (fun j e1 e2 => by have := (HR.out.lt j e1).1; have := HH.out.lt; have := Option.some.inj e2; omega))
             have HK2 := Lib.hid (HK.out.step hg (fun j e => by rw [← Option.some.inj e]; exact HH.out.nR.2.1))
             clear hm hg hsz)
          | (at_builtin
             refine wpList_append_lies _ rfl (.tmp 34) (.tmp 36) 34 rfl w.heap.size 3 i0 _ 1 8 Try.underlying34 hi hz0 hz1 hz2 rfl (by decide) u5 K.length (ivs K) rfl (row_alloc HR2.out _) ⟨w2.heap.size, 0, none⟩ 1 1 [.int .i64 x] rfl rfl (World.news_of_block (cs := #[.int .i64 x]) (t := 3) (fr := (0, 0)) (Blk.new w2 3 _)) (by simp [Value.oneCell']) (by decide) (by unfold maxLen; omega) (by omega) (by have := HK2.out.size; simp; omega) _ rfl ?_
             intro n1 k1 w4 hw hg hat hlt
             have HW4 := Lib.hid hw
             have HG4 := Lib.hid hg
             have HAT := Lib.hid hat
             clear hw hg hat hlt)
          | fail)
        have H5 := Lib.hid ((H4.out.kept ((Below.refl _ _).alloc (Nat.le_refl _) (.cells #[.int .i64 x] 3))).grown HG4.out (fun j e hm => by have := (HR.out.lt j e).1; have := HH.out.mine_lt hm; omega))
        have HK5 := Lib.hid ((HK2.out.alloc (.cells #[.int .i64 x] 3)).step HG4.out (fun j e hN => by have := (HR.out.lt j e).1; have := HH.out.noLt j hN; omega))
        have HF := Lib.hid (show freshL Z (l.take (q + 1)) = K ++ [x] from by rw [HT.out, freshL_snoc, if_neg (by rw [HWB.out]; decide), HKE.out])
        have HZ5 := Lib.hid (show wk1 (wkF Z (l.take q)) x = wkF Z (l.take (q + 1)) from by rw [HT.out, wkF_snoc])
        rw [HZ5.out] at H5
        go_roundw
        case rel => exact ⟨q + 1, _, by omega, by go_num, H5.out, by rw [HF.out, ivs_snoc, List.length_append]; exact HW4.out, HK5.out⟩
        case measure => simp [intOf]; omega
    · obtain rfl : q = l.length := by omega
      rw [List.take_length] at H3 HR
      clear hh hr hk
      go_wp2
      go_ret
      exact ⟨_, D3, rfl, H3.out, HR.out, HK.out⟩
end
end Go.Proofs.Ytgfaegnpogdneaa
