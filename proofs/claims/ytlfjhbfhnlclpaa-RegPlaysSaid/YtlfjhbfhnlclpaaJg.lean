/- The registry: Under, walked. -/
import Derived.Test.YtlfjhbfhnlclpaaJf
import Derived.Test.YtlfjhbfhnlclpaaJs
import Derived.RangeFuncWrites
import Derived.RangeFuncBox
import Derived.Maps.AppendAt
namespace Go.Proofs.Ytlfjhbfhnlclpaa
open Go.RowKit Go.Maps
open Go.Proofs
open Go.Lib
open Go.Shelf
attribute [local go_sem] Oper.semAt_some
set_option linter.unusedVariables false
set_option linter.unusedSimpArgs false
set_option maxRecDepth 100000
def keysL (L : LN) : List ByteArray := L.map Prod.fst
/-- The marks of ranges over functions that are over. -/
def mk (D : Nat) : Deferred := { target := .collected D, args := #[] }
def Marks (w : World) (B : Nat) (Ds : List Nat) : Prop := Ds.Nodup ∧ ∀ D ∈ Ds, B ≤ D ∧ w.heap[D]? = some (.deferred (some []))
theorem leave_marks {P : Program} {fn : Func} {tmps : Array Value} {R : Ending → World → Prop} {B : Nat} {Good : World → Prop} (hput : ∀ W D, Good W → W.heap[D]? = some (.deferred (some [])) → B ≤ D → Good (W.putObj D (.deferred none))) (hend : ∀ W, Good W → LeavesInM Fence.wide 6 P fn tmps R [] .returning W) :
    ∀ (Ds : List Nat) (W : World), Marks W B Ds → Good W → LeavesInM Fence.wide 6 P fn tmps R (Ds.map mk) .returning W
  | [], W, _, hG => hend W hG
  | D :: Ds, W, ⟨hn, hm⟩, hG => by
    rw [List.nodup_cons] at hn
    obtain ⟨h1, h2⟩ := hm D List.mem_cons_self
    refine ⟨by simp, .inl ⟨_, _, rfl, run_takeDeferred h2, ?_⟩⟩
    refine leave_marks hput hend Ds _ ⟨hn.2, fun D' hD' => ?_⟩ (hput W D hG h2 h1)
    obtain ⟨h3, h4⟩ := hm D' (List.mem_cons_of_mem _ hD')
    exact ⟨h3, (World.putObj_heap_other (fun e => hn.1 (by subst e; exact hD'))).trans h4⟩
theorem ranges_keep {P : Program} {k : TypeId} {R : Value → Option (VD × List MemPlace)} {w w' : World} {b r n : Nat} {D : VD} {left : Lit → Bool} {cnt : Nat} (h : w.ranges P k R b r n D left cnt) (h1 : w'.heap[b]? = w.heap[b]?) (h2 : w'.heap[r]? = w.heap[r]?) : w'.ranges P k R b r n D left cnt := by
  obtain ⟨es, clock, since, seen, c0, a1, a2, a3, a4, a5, a6⟩ := h
  exact ⟨es, clock, since, seen, c0, h1.trans a1, a2, a3, a4, h2.trans a5, a6⟩
/-- All but one box and rows of texts as they were. -/
def Kt (B : Nat) (W W' : World) : Prop := W.heap.size ≤ W'.heap.size ∧ ∀ j o, W.heap[j]? = some o → j ≠ B → (∀ cs fr, o ≠ .cells cs 9 fr) → W'.heap[j]? = some o
theorem Kt.refl (B : Nat) (W : World) : Kt B W W := ⟨Nat.le_refl _, fun _ _ h _ _ => h⟩
theorem Kt.trans {B : Nat} {a b c : World} (h : Kt B a b) (k : Kt B b c) : Kt B a c := ⟨Nat.le_trans h.1 k.1, fun j o h1 h2 h3 => k.2 j o (h.2 j o h1 h2 h3) h2 h3⟩
theorem Kt.of {B : Nat} {W W' : World} (h : Below W.heap.size W W') : Kt B W W' := ⟨h.size, fun j o h1 _ _ => (h.block j (Array.getElem?_eq_some_iff.1 h1).1).trans h1⟩
theorem Kt.row {B base k n : Nat} {W W' : World} {u : Value} {zs : List Value} (h : W.ownsRow base 9 k u n zs) (hg : W.grownBy W' u.ownBlock) : Kt B W W' := ⟨hg.size, fun j o h1 _ h3 => (hg.block j (Array.getElem?_eq_some_iff.1 h1).1 (fun e => by
  rcases h.2 with ⟨rfl, _⟩ | ⟨b, cp, cur, rfl, _, hgb, _⟩
  · cases e
  · obtain rfl : j = b := Option.some.inj e
    rw [hgb] at h1
    cases h1
    exact h3 _ _ rfl)).trans h1⟩
theorem Kt.set {B : Nat} (W : World) (u : Value) : Kt B W (W.setCell ⟨B, 0, none⟩ u) := ⟨by simp [World.setCell], fun j o h1 h2 _ => (Below.heap_setCell W ⟨B, 0, none⟩ u j (fun e => h2 e)).trans h1⟩
theorem Kt.own {B n0 : Nat} {W0 A B' : World} {row : Option Nat} (h : Kt B W0 A) (hg : A.grownBy B' row) (hr : ∀ r, row = some r → n0 ≤ r) (hn : W0.heap.size ≤ n0) : Kt B W0 B' := ⟨Nat.le_trans h.1 hg.size, fun j o h1 h2 h3 => by
  have h4 := h.2 j o h1 h2 h3
  exact (hg.block j (Array.getElem?_eq_some_iff.1 h4).1 (fun e => by
    have := hr j e.symm
    have := (Array.getElem?_eq_some_iff.1 h1).1
    omega)).trans h4⟩
theorem keepN_own {A B : World} {row : Option Nat} (hg : A.grownBy B row) (hr : ∀ r, row = some r → ∃ o : Obj, A.heap[r]? = some o ∧ o.isCells = false) : ON.KeepN A B := fun b cs h => blk_own h hg hr
theorem keeps_row {W W' : World} {base k n : Nat} {e : TypeId} {u : Value} {zs : List Value} (h : W.ownsRow base e k u n zs) (hg : W.grownBy W' u.ownBlock) : KeepsOthers W W' := KeepsOthers.of_grownBy hg (fun r o e ho => by
  rcases h.2 with ⟨rfl, _⟩ | ⟨b, cp, cur, rfl, _, hgb, _⟩
  · cases e
  · cases e
    rw [hgb] at ho
    cases ho
    rfl)
theorem row_keepO {W W' : World} {base k n : Nat} {e : TypeId} {u : Value} {zs : List Value} (h : W.ownsRow base e k u n zs) (hk : ∀ j, u.ownBlock = some j → W'.heap[j]? = W.heap[j]?) : W'.ownsRow base e k u n zs := by
  obtain ⟨h0, h3 | ⟨b, cap, cur, rfl, e2, e3, e4⟩⟩ := h
  · exact ⟨h0, .inl h3⟩
  · exact ⟨h0, .inr ⟨b, cap, cur, rfl, e2, (hk b rfl).trans e3, e4⟩⟩
theorem row_set {W : World} {base k n B : Nat} {e t : TypeId} {u w : Value} {cs : Array Value} {zs : List Value} (h : W.ownsRow base e k u n zs) (hb : Blk W B t cs) (hne : t ≠ e) : (W.setCell ⟨B, 0, none⟩ w).ownsRow base e k u n zs := by
  obtain ⟨h0, h3 | ⟨b, cap, cur, rfl, e2, e3, e4⟩⟩ := h
  · exact ⟨h0, .inl h3⟩
  · refine ⟨h0, .inr ⟨b, cap, cur, rfl, e2, (Below.heap_setCell _ _ _ _ (fun eq => ?_)).trans e3, e4⟩⟩
    have eq : b = B := eq
    subst eq
    unfold Blk at hb
    rw [hb] at e3
    cases e3
    exact hne rfl
theorem one_push {W w2 : World} {B base n : Nat} {u u' : Value} {l : List ByteArray} {x : ByteArray} (hB : base ≤ B) (hb : Blk W B 37 #[u]) (hr : W.ownsRow base 9 1 u n (svs l)) (hs : base ≤ W.heap.size) (c : Obj) (hg : (W.alloc c).grownBy w2 u.ownBlock) (ho : w2.ownsRow base 9 1 u' (n + 1) (svs (l ++ [x]))) :
    Blk w2 B 37 #[u] ∧ (Blk (w2.setCell ⟨B, 0, none⟩ u') B 37 #[u'] ∧ (w2.setCell ⟨B, 0, none⟩ u').ownsRow base 9 1 u' (n + 1) (svs (l ++ [x])) ∧ Below base W (w2.setCell ⟨B, 0, none⟩ u') ∧ Kt B W (w2.setCell ⟨B, 0, none⟩ u') ∧ ON.KeepN W (w2.setCell ⟨B, 0, none⟩ u') ∧ KeepsOthers W (w2.setCell ⟨B, 0, none⟩ u')) := by
  have hr' : (W.alloc c).ownsRow base 9 1 u n (svs l) := World.ownsRow.alloc hr c
  have hb2 : Blk w2 B 37 #[u] := blk_row (hb.alloc c) hr' (by decide) hg
  refine ⟨hb2, hb2.set_ 0 u', row_set ho hb2 (by decide), ?_, ?_, ?_, ?_⟩
  · exact (((Below.refl base W).alloc hs c).grown hg (by simp; omega) (fun k e => (hr'.lt k e).1)).setCell (p := ⟨B, 0, none⟩) hB _
  · exact ((Kt.of ((Below.refl _ W).alloc (Nat.le_refl _) c)).trans (Kt.row hr' hg)).trans (Kt.set _ _)
  · exact ((ON.KeepN.of ((Below.refl _ W).alloc (Nat.le_refl _) c)).trans (ON.KeepN.grown hr' (by decide) hg)).trans (ON.KeepN.set hb2 (by decide) 0 _)
  · exact (KeepsOthers.alloc W c).trans ((keeps_row hr' hg).trans (KeepsOthers.setCell _ _ _))
theorem on_stops (n Bm Bx g : Nat) (L U : LN) (px : ByteArray) (hpx : px.size ≤ 1000000) (w : World) (hBm : Blk w Bm 51 #[.pointer (some ⟨g, 0, none⟩)]) (hBx : Blk w Bx 9 #[.string px]) (hM : ON.Om w g L) (hks : ∀ q ∈ L, q.1.size ≤ 1000000) (hU : L.filter (fun q => preB px q.1) = U) :
    SeqStopsK Fence.wide n Try.prog 40 #[.pointer (some ⟨Bm, 0, none⟩), .pointer (some ⟨Bx, 0, none⟩)] ON.enI ON.KeepN (fun ys => ys = U) (fun pre => pre <+: U) U.length w := by
  obtain ⟨t, hM, rfl, hS⟩ := hM
  rw [← Tr.und_filter px hS] at hU
  subst hU
  exact ON.und_stops n Bm Bx g t px hpx w hBm.lt hBx.lt (hBm.cell 0) (hBx.cell 0) hM hks
theorem info9s : (Try.prog.info? 9).map (fun i => (i.zero, i.size, i.bytes)) = some (some (.string .empty), 1, 16) := by kernel_rfl
def pre (px : ByteArray) (q : ByteArray × Int) : Bool := preB px q.1
/-- What stands between two shards. -/
def Ud (w wr : World) (r M it : Nat) (n : Int) (L : LN) (px : ByteArray) (D : VD) (left : Lit → Bool) (cnt : Nat) (C : List ByteArray) (Ds : List Nat) : Prop :=
  wr.ranges Try.prog 3 RV M it (Maps.size D) D left cnt ∧ (∃ v, Blk wr w.heap.size 37 #[v] ∧ wr.ownsRow w.heap.size 9 1 v C.length (svs C)) ∧ C.Perm (keysL ((L.filter (pre px)).filter (met n left))) ∧ Below w.heap.size w wr ∧ Marks wr w.heap.size Ds
def Gd (w W : World) (V : Value) (m : Nat) (ks : List ByteArray) : Prop := W.ownsRow w.heap.size 9 1 V m (svs ks) ∧ Below w.heap.size w W
theorem filt_met {L : LN} {p q : ByteArray × Int → Bool} (h : L.filter q = []) : keysL ((L.filter p).filter q) = [] := by
  have e : (L.filter p).filter q = [] := List.filter_eq_nil_iff.2 (fun a ha => List.filter_eq_nil_iff.1 h a (List.mem_filter.1 ha).1)
  rw [e]
  rfl
set_option maxHeartbeats 8000000 in
theorem under_any {w : World} {r M c : Nat} {n : Int} {E : List (Int × Nat)} {L : LN} (h : Rgs w r M n E L c) (hc : c ≤ 30000) (px : ByteArray) (hpx : px.size ≤ 1000000) (ks : List ByteArray) (hks : keysL (L.filter (pre px)) = ks) (m : Nat) (hm : ks.length = m) :
    Calls Try.prog 22 #[.pointer (some ⟨r, 0, none⟩), .string px] w fun e w' => ∃ V, e = .returned V ∧ w'.ownsRow w.heap.size 9 1 V m (svs ks) ∧ Below w.heap.size w w' := by
  obtain ⟨D, hD, -⟩ := h.map
  obtain ⟨wA, hwA⟩ : ∃ wA, w.alloc (.cells #[.slice none 0 0] 37) = wA := ⟨_, rfl⟩
  have hbA : Below w.heap.size w wA := hwA ▸ (Below.refl _ w).alloc (Nat.le_refl _) _
  have hsA : wA.heap.size = w.heap.size + 1 := by rw [← hwA]; simp
  have c1 : wA.cell? ⟨r, 1, none⟩ = some (.map (some M)) := (h.box.below hbA h.box.lt).cell 1
  have hDA : Vm wA M D := hD.off (hbA.block M hD.lt)
  have HB5 := Lib.hid (show Blk wA w.heap.size 37 #[.slice none 0 0] from hwA ▸ Blk.new w _ _)
  have HO := Lib.hid hDA.owns
  have HD := Lib.hid hD
  have HH := Lib.hid h
  have HKS := Lib.hid hks
  have HM := Lib.hid hm
  have HBA := Lib.hid hbA
  have HSA := Lib.hid hsA
  have HMl := Lib.hid hD.lt
  clear h hD hDA hks hm hbA hsA
  refine calls_marks Try.func22 rfl ?_
  simp only [Try.ntmps22, List.size_toArray, List.length_cons, List.length_nil, Nat.reduceAdd, Nat.reduceSub, Array.replicate_succ, Array.replicate_zero, List.push_toArray, List.append_toArray, List.nil_append, List.cons_append]
  go_wp2_with (first
    | (at_range; refine wpList_range_own _ rfl _ 43 rfl 3 51 K3 Try.underlying43 RV M _ _ rfl HO.out ?_; intro w1 hrg hg1 hs1)
    | fail)
  go_frame
  obtain ⟨it, hit⟩ : ∃ it, wA.heap.size = it := ⟨_, rfl⟩
  rw [hit] at hrg ⊢
  have hitw : it = w.heap.size + 1 := by rw [← hit]; exact HSA.out
  have hb1 : Below w.heap.size w w1 := HBA.out.trans ((⟨hg1.os, hg1.tape, hg1.output, hg1.size, fun j hj => hg1.block j hj (by simp)⟩ : Below wA.heap.size wA w1).mono (by omega))
  have hb5 : Blk w1 w.heap.size 37 #[.slice none 0 0] := HB5.out.grown hg1 (by simp)
  have hls : ∀ q ∈ L, q.1.size ≤ 1000000 := fun q hq => Nat.le_trans (HH.out.key q hq) (by decide)
  have HLS := Lib.hid hls
  obtain ⟨i0, hi, hz0, hz1, hz2⟩ := info_parts info9s
  have HIT := Lib.hid hit
  have HITW := Lib.hid hitw
  clear hg1 hs1 hls hit hitw
  refine wp_loop (fun a wr => ∃ u7 u8 u14 u15 u16 u17 u18 u19 u20 u21 u22 u23 u24 u25 u26 left cnt C Ds, a = { tmps := #[.pointer (some ⟨r, 0, none⟩), .string px, undef, undef, .slice none 0 0, .pointer (some ⟨w.heap.size, 0, none⟩), undef, u7, u8, .pointer (some ⟨r, 0, none⟩), .pointer (some ⟨r, 0, none⟩), .pointer (some ⟨r, 1, none⟩), .map (some M), .pointer (some ⟨it, 0, none⟩), u14, u15, u16, u17, u18, u19, u20, u21, u22, u23, u24, u25, u26, undef, undef, undef], defers := Ds.map mk } ∧ Ud w wr r M it n L px D left cnt C Ds) (fun _ wr => wr.rangeLeft M it) ?h0 ?round
  case h0 =>
    exact ⟨_, _, _, _, _, _, _, _, _, _, _, _, _, _, _, _, _, [], [], rfl, hrg, ⟨_, hb5, World.ownsRow_nil _ _ _ _⟩, by rw [filt_met (HH.out.met0 HD.out)], hb1, ⟨List.nodup_nil, fun D hD => by cases hD⟩⟩
  case round =>
    rintro a wr ⟨u7, u8, u14, u15, u16, u17, u18, u19, u20, u21, u22, u23, u24, u25, u26, left, cnt, C, Ds, rfl, hrg, hrow, hperm, hb, hmk⟩
    have HRG := Lib.hid hrg
    have HROW := Lib.hid hrow
    have HP := Lib.hid hperm
    have HB := Lib.hid hb
    have HMK := Lib.hid hmk
    clear hrow hperm hb hmk hb1 hb5 c1
    go_wp2_with (first
      | (at_next; refine wpList_next_ranges _ rfl _ rfl 3 K3 RV (Value.int .i64) (fun v : Value => v) (fun key kl hkey => by obtain ⟨x, rfl, _⟩ := Maps.keyOf_int_inv Try.underlying3 hkey; exact ⟨x, rfl⟩) (fun v y hv => ⟨v, rfl⟩) M it (Maps.size D) D left cnt rfl hrg ?c1 ?c2)
      | fail)
    case c1 =>
      intro _ hl0
      have e : (L.filter (pre px)).filter (met n left) = L.filter (pre px) := List.filter_eq_self.2 (fun q _ => by unfold met; rw [hl0]; rfl)
      have hC : C.Perm ks := by have := HP.out; rw [e, HKS.out] at this; exact this
      have hkp : ks.Pairwise (fun a b => klt a b = true) := by
        rw [← HKS.out]
        unfold keysL
        rw [List.pairwise_map]
        exact HH.out.srt.sublist List.filter_sublist
      obtain ⟨V, hv1, hv2⟩ := HROW.out
      rw [hC.length_eq, HM.out] at hv2
      have HC := Lib.hid hC
      have HSR := Lib.hid (sort_row hv2 (by rw [hC.length_eq, HM.out]) (by rw [← HM.out, ← HKS.out]; unfold keysL; rw [List.length_map]; have := List.length_filter_le (pre px) L; have := HH.out.ll; omega))
      rw [srtB_of hC hkp] at HSR
      have hv5 := hv1.cell 0
      simp only [List.getElem?_toArray, List.getElem?_cons_zero] at hv5
      have HV1 := Lib.hid hv1
      have HV2 := Lib.hid hv2
      clear hrg hl0 e hC hkp hv1 hv2
      go_wp2_with fail
      refine HSR.out.mono ?_
      rintro _ w2 ⟨rfl, h1, h2⟩
      have hb2 : Blk w2 w.heap.size 37 #[V] := blk_row HV1.out HV2.out (by decide) h2
      have hv6 := hb2.cell 0
      simp only [List.getElem?_toArray, List.getElem?_cons_zero] at hv6
      have HG := Lib.hid (show Gd w w2 V m ks from ⟨h1, HB.out.grown h2 HB.out.size (fun k e => (HV2.out.lt k e).1)⟩)
      have HMK2 := Lib.hid (show Marks w2 w.heap.size Ds from ⟨HMK.out.1, fun D hD => by
        obtain ⟨a1, a2⟩ := HMK.out.2 D hD
        exact ⟨a1, (h2.block D (Array.getElem?_eq_some_iff.1 a2).1 (fun e => by
          rcases HV2.out.2 with ⟨rfl, _⟩ | ⟨b, cp, cur, rfl, _, hgb, _⟩
          · cases e
          · obtain rfl : D = b := Option.some.inj e
            rw [a2] at hgb
            cases hgb)).trans a2⟩⟩)
      clear h1 h2 hb2 hv5
      go_wp2
      refine leave_marks (B := w.heap.size) (Good := fun W => Gd w W V m ks) (fun W D hG hK hBD => ⟨ownsRow_putObj hG.1 _ hK rfl, hG.2.trans (belowK_b (w := w) (Nat.le_refl _) W D _ _ hBD hK rfl rfl)⟩) (fun W hG => ⟨_, results_tmp rfl _ _ _, V, rfl, hG.1, hG.2⟩) Ds w2 HMK2.out HG.out
    case c2 =>
      intro x v kl yd yp w2 cnt2 hkey hlk hv hat hrg2 hlt hgr hsz hen
      obtain ⟨rfl, g, rfl, hgE⟩ := HH.out.entry HD.out hkey hv hat
      have hB2 : Below w.heap.size w w2 := HB.out.grown hgr HB.out.size (fun k e => by cases e; have := HITW.out; omega)
      have hom := (HH.out.below hB2).oms _ hgE
      simp only at hom
      have HOM := Lib.hid hom
      have HMS := Lib.hid (met_step (n := n) hlk (L.filter (pre px)))
      have HG2 := Lib.hid hrg2
      have HLT := Lib.hid hlt
      have HB2 := Lib.hid hB2
      have HROW2 := Lib.hid (show ∃ v, Blk w2 w.heap.size 37 #[v] ∧ w2.ownsRow w.heap.size 9 1 v C.length (svs C) by
        obtain ⟨V, a1, a2⟩ := HROW.out
        have hne : ∀ (cs : Array Value) (t : TypeId) (fr : Nat × Nat) (j : Nat), wr.heap[j]? = some (.cells cs t fr) → w2.heap[j]? = wr.heap[j]? := fun cs t fr j hj => hgr.block j (Array.getElem?_eq_some_iff.1 hj).1 (fun e => by
          cases e
          obtain ⟨_, _, _, _, _, _, _, _, _, q5, _⟩ := HRG.out
          rw [q5] at hj
          cases hj)
        exact ⟨V, (hne _ _ _ _ a1).trans a1, by
          obtain ⟨h0, h3 | ⟨b, cap, cur, rfl, e2, e3, e4⟩⟩ := a2
          · exact ⟨h0, .inl h3⟩
          · exact ⟨h0, .inr ⟨b, cap, cur, rfl, e2, (hne _ _ _ _ e3).trans e3, e4⟩⟩⟩)
      have HMK2 := Lib.hid (show Marks w2 w.heap.size Ds from ⟨HMK.out.1, fun D hD => by
        obtain ⟨a1, a2⟩ := HMK.out.2 D hD
        exact ⟨a1, (hgr.block D (Array.getElem?_eq_some_iff.1 a2).1 (fun e => by
          cases e
          obtain ⟨_, _, _, _, _, _, _, _, _, q5, _⟩ := HRG.out
          rw [q5] at a2
          cases a2)).trans a2⟩⟩)
      simp only [ptr] at hen ⊢
      clear hrg hkey hlk hv hat hrg2 hlt hgr hsz hB2 hom
      go_wp2_with (first
        | (go_at_call 32
           refine (ON.under_fn g px _).mono ?_
           rintro _ wz ⟨rfl, hw0⟩)
        | fail)
      obtain ⟨W4, hW4⟩ : ∃ W4, (w2.alloc (.cells #[.pointer (some ⟨g, 0, none⟩)] 51)).alloc (.cells #[.string px] 9) = W4 := ⟨_, rfl⟩
      rw [hW4]
      clear hw0 hen
      have hb4 : Below w2.heap.size w2 W4 := hW4 ▸ ((Below.refl _ w2).alloc (Nat.le_refl _) _).alloc (by simp) _
      have hs4 : w2.heap.size + 2 ≤ W4.heap.size := by rw [← hW4]; simp
      have bM4 : Blk W4 w2.heap.size 51 #[.pointer (some ⟨g, 0, none⟩)] := hW4 ▸ Blk.alloc (Blk.new w2 51 _) _
      have bX4 : Blk W4 (w2.heap.size + 1) 9 #[.string px] := by
        have := Blk.new (w2.alloc (.cells #[.pointer (some ⟨g, 0, none⟩)] 51)) 9 #[.string px]
        rw [World.size_alloc] at this
        rw [← hW4]; exact this
      obtain ⟨U, hU⟩ : ∃ U, (L.filter (inS n x)).filter (fun q => preB px q.1) = U := ⟨_, rfl⟩
      have hst := on_stops 5 w2.heap.size (w2.heap.size + 1) g _ U px hpx W4 bM4 bX4 (HOM.out.below hb4) (fun q hq => HLS.out q (List.mem_filter.1 hq).1) hU
      have HU := Lib.hid hU
      have hUl : U.length ≤ 30000 := by
        rw [← hU]
        have h1 := List.length_filter_le (fun q => preB px q.1) (L.filter (inS n x))
        have h2 := List.length_filter_le (inS n x) L
        have h3 := HH.out.ll
        omega
      have hCl : C.length ≤ 30000 := by
        rw [HP.out.length_eq]
        unfold keysL
        rw [List.length_map]
        have h1 := List.length_filter_le (met n left) (L.filter (pre px))
        have h2 := List.length_filter_le (pre px) L
        have h3 := HH.out.ll
        omega
      have HBW4 := Lib.hid (HB2.out.trans (hb4.mono HB2.out.size))
      have HS4 := Lib.hid hs4
      have HB4 := Lib.hid hb4
      obtain ⟨v0, hv1, hv2⟩ := HROW2.out
      have hi0 : (∃ v, Blk W4 w.heap.size 37 #[v] ∧ W4.ownsRow w.heap.size 9 1 v (C.length + ([] : LN).length) (svs (C ++ keysL []))) ∧ Below w.heap.size w W4 ∧ Kt w.heap.size W4 W4 := ⟨⟨v0, (hb4.block _ hv1.lt).trans hv1, by simpa [keysL] using row_keepO hv2 (fun j hj => hb4.block j (hv2.lt j hj).2)⟩, HBW4.out, Kt.refl _ _⟩
      clear hU hv1 hv2 bM4 bX4
      refine range_plain (gf := 40) (lb := #[.pointer (some ⟨w2.heap.size, 0, none⟩), .pointer (some ⟨w2.heap.size + 1, 0, none⟩)]) rfl (enters_of Try.func40 (by kernel_rfl) rfl) hst (fun h k => h.trans k) (fun W l o o' hl h1 h2 h3 => ON.KeepN.put (w := W4) W l o o' hl h1 h2 h3) (fun _ => rfl)
        (fun pr W => (∃ v, Blk W w.heap.size 37 #[v] ∧ W.ownsRow w.heap.size 9 1 v (C.length + pr.length) (svs (C ++ keysL pr))) ∧ Below w.heap.size w W ∧ Kt w.heap.size W4 W)
        (fun _ _ _ => False)
        (fun s A B row hs hg hr => by
          obtain ⟨⟨v, h1, h2⟩, h3, h4⟩ := hs
          exact ⟨⟨v, blk_own h1 hg (fun r e => (hr r e).2), row_own h2 hg (fun r e => (hr r e).2)⟩, h3.grown hg h3.size (fun k e => by have := (hr k e).1; have := HBW4.out.size; omega), h4.own hg (fun r e => (hr r e).1) (Nat.le_refl _)⟩)
        (fun _ _ _ _ _ hs _ _ => hs)
        hi0
        2 (fun W => (∃ v, Blk W w.heap.size 37 #[v] ∧ W.ownsRow w.heap.size 9 1 v (C.length + U.length) (svs (C ++ keysL U))) ∧ Below w.heap.size w W ∧ Kt w.heap.size W4 W)
        (fun xs' W hS hI => ?S1) (fun c pre W hSp hIx => hIx.elim) (fun a w h => by simpa [Exit.inBlock] using h) ?a1 ?assign ?body ?rest
      case assign =>
        intro l x W K hK
        simp only [ON.enI]
        gi_wp2
        exact hK
      case S1 =>
        subst hS
        exact hI
      case body =>
        rintro l pr ⟨y, z⟩ W ⟨⟨v, hb, hr⟩, hbl, hkt⟩ hplt
        have cu := hb.cell 0
        simp only [List.getElem?_toArray, List.getElem?_cons_zero] at cu
        have hws : w.heap.size ≤ W.heap.size := hbl.size
        have hpl : pr.length ≤ 30000 := by omega
        have HBX := Lib.hid hb
        have HR := Lib.hid hr
        have HBL := Lib.hid hbl
        have HKT := Lib.hid hkt
        clear hb hbl hkt
        gi_wp2_with (first
          | (gi_at_builtin
             refine wpListIn_append_own _ rfl _ _ 37 rfl w.heap.size 9 i0 (.string .empty) 1 16 Try.underlying37 hi hz0 hz1 hz2 rfl (by decide) _ _ _ rfl (hr.alloc _) ⟨W.heap.size, 0, none⟩ 1 1 [.string y] rfl rfl (cell_one_new _ _ _) (by simp [Value.oneCell']) (by unfold maxLen; omega) (by omega) (by simp; omega) ?_
             intro v' w2 hown' hgrow _
             obtain ⟨g', cap', rfl⟩ := ownsRow_succ hown'
             obtain ⟨hb2, hfin⟩ := one_push (Nat.le_refl _) HBX.out HR.out hws _ hgrow (by unfold svs at hown' ⊢; rw [List.map_append]; exact hown')
             have HFIN := Lib.hid hfin
             have hc1 := hb2.cell 0
             have hf1 := hb2.frozen 0
             simp only [List.getElem?_toArray, List.getElem?_cons_zero] at hc1
             clear hb2 hfin hown' hgrow)
          | fail)
        obtain ⟨f1, f2, f3, f4, f5, f6⟩ := HFIN.out
        refine ⟨f6.from _, f5, ⟨_, f1, ?_⟩, HBL.out.trans f3, HKT.out.trans f4⟩
        simpa [keysL, Nat.add_assoc] using f2
      case rest =>
        rintro D5 W5 hD5 ⟨hrow5, hbl5, hkt5⟩ hKD5
        have hM4 := HG2.out
        have hr4 := ranges_keep HG2.out (hb4.block M (by obtain ⟨_, _, _, _, _, q, _⟩ := hM4; exact (Array.getElem?_eq_some_iff.1 q).1)) (hb4.block it (by obtain ⟨_, _, _, _, _, _, _, _, _, q, _⟩ := hM4; exact (Array.getElem?_eq_some_iff.1 q).1))
        have hcell5 : ∃ cs fr, W4.heap[w.heap.size]? = some (.cells cs 37 fr) := by
          obtain ⟨⟨v, h1, _⟩, _⟩ := hi0
          exact ⟨_, _, h1⟩
        have hr5 : W5.ranges Try.prog 3 RV M it (Maps.size D) D _ cnt2 := ranges_keep hr4
          (by
            obtain ⟨_, _, _, _, _, q, _⟩ := hr4
            rw [hkt5.2 M _ q (fun e => by obtain ⟨cs, fr, e2⟩ := hcell5; rw [← e, q] at e2; cases e2) (fun cs fr e => by cases e), q])
          (by
            obtain ⟨_, _, _, _, _, _, _, _, _, q, _⟩ := hr4
            rw [hkt5.2 it _ q (fun e => by obtain ⟨cs, fr, e2⟩ := hcell5; rw [← e, q] at e2; cases e2) (fun cs fr e => by cases e), q])
        have HR5 := Lib.hid hr5
        have HMK5 := Lib.hid (show Marks W5 w.heap.size (D5 :: Ds) from by
          refine ⟨List.nodup_cons.2 ⟨fun hm => ?_, HMK2.out.1⟩, fun D' hD' => ?_⟩
          · have := (Array.getElem?_eq_some_iff.1 (HMK2.out.2 _ hm).2).1
            omega
          · rcases List.mem_cons.1 hD' with rfl | hD'
            · exact ⟨by have := HBW4.out.size; omega, hKD5⟩
            · obtain ⟨a1, a2⟩ := HMK2.out.2 _ hD'
              have a3 := (hb4.block D' (Array.getElem?_eq_some_iff.1 a2).1).trans a2
              exact ⟨a1, hkt5.2 D' _ a3 (fun e => by obtain ⟨cs, fr, e2⟩ := hcell5; rw [← e, a3] at e2; cases e2) (fun cs fr e => by cases e)⟩)
        have HROW5 := Lib.hid hrow5
        have HBL5 := Lib.hid hbl5
        have HP5 := Lib.hid (show (C ++ keysL U).Perm (keysL ((L.filter (pre px)).filter (met n (fun z => left z && !z.sameKey (.int .i64 x))))) by
          have e : U = (L.filter (pre px)).filter (inS n x) := by
            rw [← HU.out, List.filter_filter, List.filter_filter]
            congr 1
            funext q
            rw [Bool.and_comm]
            rfl
          have h1 := HMS.out.map Prod.fst
          rw [List.map_append] at h1
          rw [e]
          exact (List.Perm.append_right _ HP.out).trans h1.symm)
        clear hr5 hr4 hM4 hrow5 hbl5 hkt5 hi0 hcell5 hst hs4 hb4
        go_wp2
        refine ⟨⟨_, _, _, _, _, _, _, _, _, _, _, _, _, _, _, _, cnt2, C ++ keysL U, D5 :: Ds, rfl, HR5.out, ?_, HP5.out, HBL5.out, HMK5.out⟩, ?_⟩
        · obtain ⟨v, h1, h2⟩ := HROW5.out
          exact ⟨v, h1, by rw [List.length_append]; unfold keysL; rw [List.length_map]; exact h2⟩
        · rw [HR5.out.left_eq, HRG.out.left_eq]; exact HLT.out
end Go.Proofs.Ytlfjhbfhnlclpaa
