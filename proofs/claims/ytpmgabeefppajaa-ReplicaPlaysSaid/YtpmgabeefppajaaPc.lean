/- The reference's copy: Fold. -/
import Derived.Test.YtpmgabeefppajaaPb
import Derived.Test.YtpmgabeefppajaaRk
import Derived.Deep.RegionWith
namespace Go.Proofs.Ytpmgabeefppajaa
open Go.RowKit
open Go.Lib
set_option linter.unusedVariables false
set_option linter.unusedSimpArgs false
set_option maxRecDepth 100000
theorem own_keep {w w' : World} {base : Nat} {e : TypeId} {k n : Nat} {v : Value} {xs : List Value} (h : w.ownsRow base e k v n xs) (hk : ∀ j cur, v.ownBlock = some j → Blk w j e cur → w'.heap[j]? = w.heap[j]?) : w'.ownsRow base e k v n xs := by
  obtain ⟨h0, h3 | ⟨b, cap, cur, rfl, e2, e3, e4⟩⟩ := h
  · exact ⟨h0, .inl h3⟩
  · exact ⟨h0, .inr ⟨b, cap, cur, rfl, e2, (hk b cur rfl e3).trans e3, e4⟩⟩
theorem own_down {wr : World} {X B : Nat} {e : TypeId} {v : Value} {k n : Nat} {xs : List Value} (hB : B ≤ X) (h : wr.ownsRow X e n v k xs) : wr.ownsRow B e n v k xs := by
  obtain ⟨h0, h3 | ⟨b, cap, cur, e1, e2, e3⟩⟩ := h
  · exact ⟨h0, .inl h3⟩
  · exact ⟨h0, .inr ⟨b, cap, cur, e1, Nat.le_trans hB e2, e3⟩⟩
/-- The document's replica: its box, and the row of its cards. -/
def Oq (w : World) (B g : Nat) (R : Rs) : Prop := ∃ U, Blk w g 30 #[U, .int .i64 R.tk, .bool R.mo] ∧ w.ownsRow B 41 4 U R.L.length (itsC (itsK R.L))
theorem Oq.lt {w : World} {B g : Nat} {R : Rs} (h : Oq w B g R) : g < w.heap.size := by
  obtain ⟨U, h1, _⟩ := h
  exact h1.lt
theorem Oq.step {w w' : World} {B g : Nat} {R : Rs} (h : Oq w B g R) (hb : Below w.heap.size w w') : Oq w' B g R := by
  obtain ⟨U, h1, h2⟩ := h
  exact ⟨U, h1.below hb h1.lt, own_below h2 hb⟩
/-- Another object's work: boxes of types 30 and 41 stay. -/
theorem Oq.keep {w w' : World} {B g : Nat} {R : Rs} (h : Oq w B g R) (hk : ∀ b t cs, Blk w b t cs → t ≠ 67 → t ≠ 103 → Blk w' b t cs) : Oq w' B g R := by
  obtain ⟨U, h1, h2⟩ := h
  exact ⟨U, hk g 30 _ h1 (by decide) (by decide), own_keep h2 (fun j cur _ hb => (hk j 41 cur hb (by decide) (by decide)).trans hb.symm)⟩
/-- While the document's Fold goes. -/
structure Ow (w wr : World) (B g X : Nat) (cs : Array Value) (R : Rs) : Prop where
  oq : Oq wr B g R
  box : Blk wr X 35 cs
  ko : OK.Ko w wr g
section
variable {w wr w' : World} {B g X : Nat} {cs : Array Value} {R : Rs}
theorem Ow.step (h : Ow w wr B g X cs R) (hb : Below wr.heap.size wr w') : Ow w w' B g X cs R := ⟨h.oq.step hb, h.box.below hb h.box.lt, h.ko.trans (OK.Ko.of hb)⟩
theorem Ow.drewN (h : Ow w wr B g X cs R) (n : Nat) : Ow w (wr.drewN n) B g X cs R := h.step (below_drewN (Below.refl _ _) n)
theorem Ow.its (h : Ow w wr B g X cs R) {A : Option Addr} {len cap b off : Nat} {xs : List It} (hI : Its w A len cap b off xs) (hbg : 0 < len → b ≠ g) : Its wr A len cap b off xs := hI.keep h.ko.size (fun hl => h.ko.block b (hI.addr hl).2 (hbg hl))
/-- A store into the replica's box. -/
theorem Ow.set (h : Ow w wr B g X cs R) (hX : X ≠ g) (i : Nat) (u : Value) (R' : Rs) (U' : Value) (hc : ∀ U, Blk wr g 30 #[U, .int .i64 R.tk, .bool R.mo] → (#[U, .int .i64 R.tk, .bool R.mo] : Array Value).setIfInBounds i u = #[if i = 0 then U' else U, .int .i64 R'.tk, .bool R'.mo]) (ho : ∀ U, Blk wr g 30 #[U, .int .i64 R.tk, .bool R.mo] → wr.ownsRow B 41 4 U R.L.length (itsC (itsK R.L)) → wr.ownsRow B 41 4 (if i = 0 then U' else U) R'.L.length (itsC (itsK R'.L))) : Ow w (wr.setCell ⟨g, i, none⟩ u) B g X cs R' := by
  obtain ⟨U, h1, h2⟩ := h.oq
  have h3 := ho U h1 h2
  refine ⟨⟨_, hc U h1 ▸ h1.set_ i u, own_set h3 h1 (by decide) i u⟩, h.box.far (p := ⟨g, i, none⟩) hX u, ⟨h.ko.os, h.ko.tape, h.ko.output, ?_, fun j hj hn => (Below.heap_setCell wr ⟨g, i, none⟩ u j hn).trans (h.ko.block j hj hn)⟩⟩
  have := h.ko.size
  simpa [World.setCell] using this
end
theorem okI_false_seen {a : Int} {xs : List It} {q j : Nat} {t tj : It} (ht : xs[q]? = some t) (hj : xs[j]? = some tj) (hjq : j < q) (e : tj.u = t.u) : okTo a xs xs.length = false := by
  have hq := (List.getElem?_eq_some_iff.1 ht).1
  refine okTo_miss hq ?_
  rw [okAt_some ht]
  unfold okI
  have : (((xs.take q).map It.u).any fun u => decide (u = t.u)) = true := by
    rw [List.any_eq_true]
    refine ⟨tj.u, List.mem_map_of_mem ?_, by simp [e]⟩
    rw [List.mem_iff_getElem?]
    exact ⟨j, by rw [List.getElem?_take, if_pos hjq, hj]⟩
  rw [this]
  rfl
theorem okI_true {a : Int} {xs : List It} {q : Nat} {t : It} (ht : xs[q]? = some t) (hok : okTo a xs q = true) (hs : ∀ i t', i < q → xs[i]? = some t' → t'.u ≠ t.u) (h1 : 1 ≤ t.v) (h2 : a = 0 ∨ a < t.v) : okTo a xs (q + 1) = true := by
  rw [okTo_snoc, hok, okAt_some ht]
  unfold okI
  have : (((xs.take q).map It.u).any fun u => decide (u = t.u)) = false := by
    rw [List.any_eq_false]
    intro u hu
    obtain ⟨t', ht', rfl⟩ := List.mem_map.1 hu
    obtain ⟨i, hi⟩ := List.mem_iff_getElem?.1 ht'
    have hiq : i < q := by
      have := (List.getElem?_eq_some_iff.1 hi).1
      rw [List.length_take] at this
      omega
    rw [List.getElem?_take, if_pos hiq] at hi
    have := hs i t' hiq hi
    simpa using this
  rw [this, decide_eq_true h1]
  rcases h2 with h2 | h2
  · rw [decide_eq_true h2]; rfl
  · rw [decide_eq_true h2]; simp
theorem put_sl {w : World} {A : Option Addr} {len cap b off : Nat} {L : LK} (h : Its w A len cap b off (itsK L)) (hn : len ≤ 30000) (hs : Srt L) (t : It) : Calls Try.prog 32 #[.slice A len cap, .agg #[.string t.u, .int .i64 t.v, .bool t.x, .string t.c]] w fun r w' => ∃ A' n' cap', r = .returned (.slice A' n' cap') ∧ w'.ownsRow w.heap.size 41 4 (.slice A' n' cap') (tk1 L t).length (itsC (itsK (tk1 L t))) ∧ Below w.heap.size w w' := by
  refine (put_any h hn hs t).mono ?_
  rintro _ w1 ⟨U, rfl, h1, h2⟩
  have h3 := h1
  rw [← itsK_len] at h3
  obtain ⟨A', cap', b', rfl, _⟩ := own_its2 h3
  exact ⟨A', _, cap', rfl, h1, h2⟩
set_option maxHeartbeats 16000000 in
theorem rfold_any {w : World} {B g : Nat} {L : LK} {tk : Int} {mo : Bool} (h : Oq w B g ⟨L, tk, mo⟩) (hB : B ≤ w.heap.size) {A : Option Addr} {len cap b off : Nat} {xs : List It} (hI : Its w A len cap b off xs) (hbg : 0 < len → b ≠ g) (hn : len ≤ 120) (hL : L.length ≤ 20000) (hs : Srt L) (asked k e tok ver : Int) (card : ByteArray) (idx : Int) (more : Bool) (F : Rs) (hF : foldR ⟨L, tk, mo⟩ asked k e tok more xs = F) (E : Int) (hE : foldE ⟨L, tk, mo⟩ asked k e tok xs = E) :
    Calls Try.prog 13 #[.pointer (some ⟨g, 0, none⟩), .int .i64 asked, .agg #[.int .i64 k, .int .i64 e, .int .i64 tok, .int .i64 ver, .string card, .int .i64 idx, .bool more, .slice A len cap]] w fun r w' => r = .returned (.int .i64 E) ∧ Oq w' B g F ∧ OK.Ko w w' g := by
  have hlen := hI.hlen
  have hlc := hI.le
  have hgl := h.lt
  have hnI : (len : Int) ≤ 120 := by omega
  obtain ⟨X, hX⟩ : ∃ X, w.heap.size = X := ⟨_, rfl⟩
  obtain ⟨W, hW⟩ : ∃ W, w.alloc (.cells #[.int .i64 k, .int .i64 e, .int .i64 tok, .int .i64 ver, .string card, .int .i64 idx, .bool more, .slice A len cap] 35) = W := ⟨_, rfl⟩
  have HBW := Lib.hid (show Below w.heap.size w W from hW ▸ (Below.refl _ w).alloc (Nat.le_refl _) _)
  have HO := Lib.hid (show Ow w W B g X #[.int .i64 k, .int .i64 e, .int .i64 tok, .int .i64 ver, .string card, .int .i64 idx, .bool more, .slice A len cap] ⟨L, tk, mo⟩ from ⟨h.step HBW.out, hX ▸ hW ▸ Blk.new w 35 _, OK.Ko.of HBW.out⟩)
  have HI := Lib.hid hI
  have HBG := Lib.hid hbg
  have HSS := Lib.hid hs
  have HLL := Lib.hid hL
  have HBB := Lib.hid (show B ≤ X by omega)
  have HF := Lib.hid hF.symm
  have HE := Lib.hid hE.symm
  have HXg := Lib.hid (show X ≠ g by omega)
  have HXL := Lib.hid (show X = w.heap.size from hX.symm)
  have x0 := HO.out.box.cell 0
  have x1 := HO.out.box.cell 1
  have x2 := HO.out.box.cell 2
  have x6 := HO.out.box.cell 6
  have x7 := HO.out.box.cell 7
  obtain ⟨U, hu1, hu2⟩ := HO.out.oq
  have HU2 := Lib.hid hu2
  have g0 := hu1.cell 0
  have g1 := hu1.cell 1
  have g2 := hu1.cell 2
  have fg0 := hu1.frozen 0
  have fg1 := hu1.frozen 1
  have fg2 := hu1.frozen 2
  clear h hI hbg hF hE hgl hL hs hu1 hu2 hB
  by_cases ht : k ≠ 8 ∨ asked ≠ tk
  · have H0 := Lib.hid (show F = ⟨L, tk, mo⟩ by rw [HF.out]; unfold foldR; rw [if_pos ht])
    have H1 := Lib.hid (show E = 10 by rw [HE.out]; unfold foldE; rw [if_pos ht])
    have HFI := Lib.hid (show Oq W B g F ∧ OK.Ko w W g by rw [H0.out]; exact ⟨HO.out.oq, HO.out.ko⟩)
    by_cases hk : k = 8
    · have hk2 : (k != 8) = false := by rw [hk]; rfl
      have ha2 : (asked != tk) = true := by
        rcases ht with h | h
        · exact absurd hk h
        · simpa using h
      clear hk ht
      go_enter Try.func13, Try.ntmps13
      go_wp2
      go_ret
      exact ⟨by rw [H1.out]; rfl, HFI.out⟩
    · have hk2 : (k != 8) = true := by simpa using hk
      clear hk ht
      go_enter Try.func13, Try.ntmps13
      go_wp2
      go_ret
      exact ⟨by rw [H1.out]; rfl, HFI.out⟩
  have hk2 : (k != 8) = false := by
    by_cases hk : k = 8
    · rw [hk]; rfl
    · exact absurd (.inl hk) ht
  have ha2 : (asked != tk) = false := by
    by_cases hk : asked = tk
    · rw [hk]; simp
    · exact absurd (.inr hk) ht
  have HF2 := Lib.hid (show F = if e = 8 then ⟨[], 0, false⟩ else if e ≠ 0 then ⟨L, tk, mo⟩ else if folB asked tok xs = true then ⟨takes (if asked = 0 then [] else L) xs, tok, more⟩ else ⟨L, tk, mo⟩ by rw [HF.out]; unfold foldR; rw [if_neg ht])
  have HE2 := Lib.hid (show E = if e = 8 then 0 else if e ≠ 0 then 10 else if folB asked tok xs = true then 0 else 1 by rw [HE.out]; unfold foldE; rw [if_neg ht])
  clear ht HF HE
  by_cases he8 : e = 8
  · have H0 := Lib.hid (show F = ⟨[], 0, false⟩ by rw [HF2.out, if_pos he8])
    have H1 := Lib.hid (show E = 0 by rw [HE2.out, if_pos he8])
    have he2 : (e == 8) = true := by rw [he8]; rfl
    clear he8 HF2 HE2
    have HO1 := Lib.hid (HO.out.set HXg.out 0 (.slice none 0 0) ⟨[], tk, mo⟩ (.slice none 0 0) (fun U _ => rfl) (fun U _ _ => ⟨rfl, .inl ⟨rfl, rfl⟩⟩))
    have HO2 := Lib.hid (HO1.out.set HXg.out 1 (.int .i64 0) ⟨[], 0, mo⟩ (.slice none 0 0) (fun U _ => rfl) (fun U _ h => h))
    have HO3 := Lib.hid (HO2.out.set HXg.out 2 (.bool false) ⟨[], 0, false⟩ (.slice none 0 0) (fun U _ => rfl) (fun U _ h => h))
    go_enter Try.func13, Try.ntmps13
    go_wp2
    go_ret
    exact ⟨by rw [H1.out]; rfl, by rw [H0.out]; exact HO3.out.oq, HO3.out.ko⟩
  have he2 : (e == 8) = false := by simpa using he8
  by_cases he0 : e ≠ 0
  · have H0 := Lib.hid (show F = ⟨L, tk, mo⟩ by rw [HF2.out, if_neg he8, if_pos he0])
    have H1 := Lib.hid (show E = 10 by rw [HE2.out, if_neg he8, if_pos he0])
    have HFI := Lib.hid (show Oq W B g F ∧ OK.Ko w W g by rw [H0.out]; exact ⟨HO.out.oq, HO.out.ko⟩)
    have he3 : (e != 0) = true := by simpa using he0
    clear he8 he0 HF2 HE2
    go_enter Try.func13, Try.ntmps13
    go_wp2
    go_ret
    exact ⟨by rw [H1.out]; rfl, HFI.out⟩
  have he3 : (e != 0) = false := by simpa using he0
  have HF3 := Lib.hid (show F = if folB asked tok xs = true then ⟨takes (if asked = 0 then [] else L) xs, tok, more⟩ else ⟨L, tk, mo⟩ by rw [HF2.out, if_neg he8, if_neg he0])
  have HE3 := Lib.hid (show E = if folB asked tok xs = true then 0 else 1 by rw [HE2.out, if_neg he8, if_neg he0])
  clear he8 he0 HF2 HE2
  by_cases hta : tok < asked
  · have H0 := Lib.hid (show F = ⟨L, tk, mo⟩ by rw [HF3.out]; unfold folB; rw [decide_eq_false (by omega)]; rfl)
    have H1 := Lib.hid (show E = 1 by rw [HE3.out]; unfold folB; rw [decide_eq_false (by omega)]; rfl)
    have HFI := Lib.hid (show Oq W B g F ∧ OK.Ko w W g by rw [H0.out]; exact ⟨HO.out.oq, HO.out.ko⟩)
    go_enter Try.func13, Try.ntmps13
    go_wp2
    go_ret
    exact ⟨by rw [H1.out]; rfl, HFI.out⟩
  have HF4 := Lib.hid (show F = if okTo asked xs xs.length = true then ⟨takes (if asked = 0 then [] else L) xs, tok, more⟩ else ⟨L, tk, mo⟩ by rw [HF3.out]; unfold folB; rw [decide_eq_true (show asked ≤ tok by omega), Bool.true_and])
  have HE4 := Lib.hid (show E = if okTo asked xs xs.length = true then 0 else 1 by rw [HE3.out]; unfold folB; rw [decide_eq_true (show asked ≤ tok by omega), Bool.true_and])
  have HBAD := Lib.hid (fun (h : okTo asked xs xs.length = false) => (show F = ⟨L, tk, mo⟩ ∧ E = 1 by rw [HF4.out, HE4.out, h]; exact ⟨rfl, rfl⟩))
  clear HF3 HE3
  go_enter Try.func13, Try.ntmps13
  go_wp2
  clear x0 x1 x2 x6 x7 g0 g1 g2 fg0 fg1 fg2 hW hX
  go_loopw [7] (fun i wr => ∃ q : Nat, q ≤ len ∧ i = .int .i64 (q : Int) ∧ okTo asked xs q = true ∧ Ow w wr B g X #[.int .i64 k, .int .i64 e, .int .i64 tok, .int .i64 ver, .string card, .int .i64 idx, .bool more, .slice A len cap] ⟨L, tk, mo⟩) (fun i _ => len - (intOf i).toNat)
  case atStart => exact ⟨0, Nat.zero_le _, rfl, okTo_zero _ _, HO.out⟩
  case round =>
    obtain ⟨q, hq, rfl, hok, hO⟩ := hrel
    have HOK := Lib.hid hok
    have HO1 := Lib.hid hO
    have x7 := hO.box.cell 7
    clear hok hO
    by_cases hql : q < len
    · obtain ⟨t, ht⟩ : ∃ t, xs[q]? = some t := ⟨xs[q]'(by rw [HI.out.hlen]; exact hql), List.getElem?_eq_getElem _⟩
      obtain ⟨rfl, hbl⟩ := HI.out.addr (by omega)
      have HIT := Lib.hid (fun (wz : World) (hz : Ow w wz B g X #[.int .i64 k, .int .i64 e, .int .i64 tok, .int .i64 ver, .string card, .int .i64 idx, .bool more, .slice (some ⟨b, off, none⟩) len cap] ⟨L, tk, mo⟩) => hz.its HI.out HBG.out)
      obtain ⟨c0, c1, c2, c3⟩ := (HIT.out wr HO1.out).cell q t ht
      have HQT := Lib.hid ht
      have HMI := Lib.hid (fun (h : okAt asked xs q = false) => HBAD.out (okTo_miss (by rw [HI.out.hlen]; exact hql) h))
      have HAS := Lib.hid (okAt_some (a := asked) ht)
      have hqI : (q : Int) < (len : Int) := by omega
      obtain ⟨tu, tv, tx, tc⟩ := t
      simp only at c0 c1 c2 c3
      clear ht hbl
      by_cases hv1 : tv < 1
      · have HB1 := Lib.hid (HMI.out (by rw [HAS.out]; unfold okI; rw [decide_eq_false (show ¬ 1 ≤ tv by omega)]; simp))
        go_wp2
        go_ret
        exact ⟨by rw [HB1.out.2]; rfl, by rw [HB1.out.1]; exact HO1.out.oq, HO1.out.ko⟩
      by_cases hz : asked = 0
      · have hz2 : (asked != 0) = false := by rw [hz]; rfl
        have HV := Lib.hid (show (1 ≤ tv) ∧ (asked = 0 ∨ asked < tv) from ⟨by omega, .inl hz⟩)
        clear hz
        go_wp2
        have hdq : decide ((q : Int) < (len : Int)) = true := decide_eq_true hqI
        try simp only [hdq]
        clear c0 c1 c2 c3
        go_loopw [8] (fun kk wr2 => ∃ j : Nat, j ≤ q ∧ kk = .int .i64 (j : Int) ∧ (∀ i t', i < j → xs[i]? = some t' → t'.u ≠ tu) ∧ Ow w wr2 B g X #[.int .i64 k, .int .i64 e, .int .i64 tok, .int .i64 ver, .string card, .int .i64 idx, .bool more, .slice (some ⟨b, off, none⟩) len cap] ⟨L, tk, mo⟩) (fun kk _ => q - (intOf kk).toNat)
        case atStart => exact ⟨0, Nat.zero_le _, rfl, fun i t' hi => absurd hi (by omega), HO1.out⟩
        case round =>
          rename_i wr2 _
          obtain ⟨j, hj, rfl, hne, hO2⟩ := hrel
          have HNE := Lib.hid hne
          have HO2 := Lib.hid hO2
          have x7 := hO2.box.cell 7
          clear hne hO2
          by_cases hjq : j < q
          · obtain ⟨tj, htj⟩ : ∃ tj, xs[j]? = some tj := ⟨xs[j]'(by rw [HI.out.hlen]; omega), List.getElem?_eq_getElem _⟩
            obtain ⟨c0, c1, c2, c3⟩ := (HIT.out _ HO2.out).cell q _ HQT.out
            obtain ⟨d0, d1, d2, d3⟩ := (HIT.out _ HO2.out).cell j tj htj
            have HJT := Lib.hid htj
            obtain ⟨ju, jv, jx, jc⟩ := tj
            simp only at c0 d0
            clear c1 c2 c3 d1 d2 d3 htj
            have hjI : (j : Int) < (q : Int) := by omega
            by_cases hu : ju = tu
            · have hu2 : (ju.toList == tu.toList) = true := by rw [hu]; simp
              have HB1 := Lib.hid (HBAD.out (okI_false_seen HQT.out HJT.out hjq hu))
              clear hu
              go_wp2_with fail
              go_quiet (fail)
              have HO3 := Lib.hid (HO2.out.drewN nq)
              go_wp2
              go_ret
              exact ⟨by rw [HB1.out.2]; rfl, by rw [HB1.out.1]; exact HO3.out.oq, HO3.out.ko⟩
            · have hu2 : (ju.toList == tu.toList) = false := by rw [keq]; exact decide_eq_false hu
              have HN2 := Lib.hid (show ∀ i t', i < j + 1 → xs[i]? = some t' → t'.u ≠ tu from fun i t' hi h' => by
                rcases Nat.lt_succ_iff_lt_or_eq.1 hi with h | rfl
                · exact HNE.out i t' h h'
                · rw [HJT.out] at h'
                  cases h'
                  exact hu)
              clear hu
              go_wp2_with fail
              go_quiet (fail)
              have HO3 := Lib.hid (HO2.out.drewN nq)
              go_wp2
              go_roundw
              case rel => exact ⟨j + 1, by omega, by go_num, HN2.out, HO3.out⟩
              case measure => simp [intOf]; omega
          · obtain rfl : j = q := by omega
            have HN := Lib.hid (okI_true HQT.out HOK.out HNE.out HV.out.1 HV.out.2)
            go_wp2
            go_roundw
            case rel => exact ⟨j + 1, by omega, by go_num, HN.out, HO2.out⟩
            case measure => simp [intOf]; omega
      · have hz2 : (asked != 0) = true := by simpa using hz
        by_cases hv2 : tv ≤ asked
        · have HB1 := Lib.hid (HMI.out (by rw [HAS.out]; unfold okI; rw [decide_eq_false hz, decide_eq_false (show ¬ asked < tv by omega)]; simp))
          clear hz
          go_wp2
          go_ret
          exact ⟨by rw [HB1.out.2]; rfl, by rw [HB1.out.1]; exact HO1.out.oq, HO1.out.ko⟩
        · have HV := Lib.hid (show (1 ≤ tv) ∧ (asked = 0 ∨ asked < tv) from ⟨by omega, .inr (by omega)⟩)
          clear hz
          go_wp2
          have hdq : decide ((q : Int) < (len : Int)) = true := decide_eq_true hqI
          try simp only [hdq]
          clear c0 c1 c2 c3
          go_loopw [8] (fun kk wr2 => ∃ j : Nat, j ≤ q ∧ kk = .int .i64 (j : Int) ∧ (∀ i t', i < j → xs[i]? = some t' → t'.u ≠ tu) ∧ Ow w wr2 B g X #[.int .i64 k, .int .i64 e, .int .i64 tok, .int .i64 ver, .string card, .int .i64 idx, .bool more, .slice (some ⟨b, off, none⟩) len cap] ⟨L, tk, mo⟩) (fun kk _ => q - (intOf kk).toNat)
          case atStart => exact ⟨0, Nat.zero_le _, rfl, fun i t' hi => absurd hi (by omega), HO1.out⟩
          case round =>
            rename_i wr2 _
            obtain ⟨j, hj, rfl, hne, hO2⟩ := hrel
            have HNE := Lib.hid hne
            have HO2 := Lib.hid hO2
            have x7 := hO2.box.cell 7
            clear hne hO2
            by_cases hjq : j < q
            · obtain ⟨tj, htj⟩ : ∃ tj, xs[j]? = some tj := ⟨xs[j]'(by rw [HI.out.hlen]; omega), List.getElem?_eq_getElem _⟩
              obtain ⟨c0, c1, c2, c3⟩ := (HIT.out _ HO2.out).cell q _ HQT.out
              obtain ⟨d0, d1, d2, d3⟩ := (HIT.out _ HO2.out).cell j tj htj
              have HJT := Lib.hid htj
              obtain ⟨ju, jv, jx, jc⟩ := tj
              simp only at c0 d0
              clear c1 c2 c3 d1 d2 d3 htj
              have hjI : (j : Int) < (q : Int) := by omega
              by_cases hu : ju = tu
              · have hu2 : (ju.toList == tu.toList) = true := by rw [hu]; simp
                have HB1 := Lib.hid (HBAD.out (okI_false_seen HQT.out HJT.out hjq hu))
                clear hu
                go_wp2_with fail
                go_quiet (fail)
                have HO3 := Lib.hid (HO2.out.drewN nq)
                go_wp2
                go_ret
                exact ⟨by rw [HB1.out.2]; rfl, by rw [HB1.out.1]; exact HO3.out.oq, HO3.out.ko⟩
              · have hu2 : (ju.toList == tu.toList) = false := by rw [keq]; exact decide_eq_false hu
                have HN2 := Lib.hid (show ∀ i t', i < j + 1 → xs[i]? = some t' → t'.u ≠ tu from fun i t' hi h' => by
                  rcases Nat.lt_succ_iff_lt_or_eq.1 hi with h | rfl
                  · exact HNE.out i t' h h'
                  · rw [HJT.out] at h'
                    cases h'
                    exact hu)
                clear hu
                go_wp2_with fail
                go_quiet (fail)
                have HO3 := Lib.hid (HO2.out.drewN nq)
                go_wp2
                go_roundw
                case rel => exact ⟨j + 1, by omega, by go_num, HN2.out, HO3.out⟩
                case measure => simp [intOf]; omega
            · obtain rfl : j = q := by omega
              have HN := Lib.hid (okI_true HQT.out HOK.out HNE.out HV.out.1 HV.out.2)
              go_wp2
              go_roundw
              case rel => exact ⟨j + 1, by omega, by go_num, HN.out, HO2.out⟩
              case measure => simp [intOf]; omega
    · obtain rfl : q = len := by omega
      have HGO := Lib.hid (show okTo asked xs xs.length = true by rw [HI.out.hlen]; exact HOK.out)
      have H1 := Lib.hid (show E = 0 by rw [HE4.out, if_pos HGO.out])
      have H0 := Lib.hid (show F = ⟨takes (if asked = 0 then [] else L) xs, tok, more⟩ by rw [HF4.out, if_pos HGO.out])
      obtain ⟨U1, hu1, hu2⟩ := HO1.out.oq
      have g0 := hu1.cell 0
      have fg0 := hu1.frozen 0
      clear HF4 HE4 HBAD HOK HGO hu1 hu2
      by_cases hz : asked = 0
      · have hz2 : (asked == 0) = true := by rw [hz]; rfl
        have H2 := Lib.hid (show F = ⟨takes [] xs, tok, more⟩ by rw [H0.out, if_pos hz])
        have HS0 := Lib.hid (HO1.out.set HXg.out 0 (.slice none 0 0) ⟨[], tk, mo⟩ (.slice none 0 0) (fun U _ => rfl) (fun U _ _ => ⟨rfl, .inl ⟨rfl, rfl⟩⟩))
        have HSR := Lib.hid (show Srt ([] : LK) from List.Pairwise.nil)
        have HLZ := Lib.hid (show ([] : LK).length ≤ 20000 from Nat.zero_le _)
        clear hz H0
        go_wp2
        clear g0 fg0 x7
        go_loopw [9] (fun i wr => ∃ q' : Nat, q' ≤ q ∧ i = .int .i64 (q' : Int) ∧ Ow w wr B g X #[.int .i64 k, .int .i64 e, .int .i64 tok, .int .i64 ver, .string card, .int .i64 idx, .bool more, .slice A q cap] ⟨takes [] (xs.take q'), tk, mo⟩) (fun i _ => q - (intOf i).toNat)
        case atStart => exact ⟨0, Nat.zero_le _, rfl, HS0.out⟩
        case round =>
          obtain ⟨p, hp, rfl, hO⟩ := hrel
          have HOP := Lib.hid hO
          clear hO
          by_cases hpl : p < q
          · obtain ⟨t, ht⟩ : ∃ t, xs[p]? = some t := ⟨xs[p]'(by rw [HI.out.hlen]; exact hpl), List.getElem?_eq_getElem _⟩
            obtain ⟨rfl, hbl⟩ := HI.out.addr (by omega)
            have HTS := Lib.hid (takes_snoc [] xs p t ht)
            have HSQ := Lib.hid (takes_srt (xs := xs.take p) HSR.out)
            have HLQ := Lib.hid (show (takes [] (xs.take p)).length ≤ 30000 by
              have h1 := takes_len (xs := xs.take p) HSR.out
              have h2 := HLZ.out
              simp only [List.length_take] at h1
              omega)
            obtain ⟨c0, c1, c2, c3⟩ := (HOP.out.its HI.out HBG.out).cell p t ht
            have x7 := HOP.out.box.cell 7
            obtain ⟨tu, tv, tx, tc⟩ := t
            simp only at c0 c1 c2 c3
            obtain ⟨Lq, hLq⟩ : ∃ Lq, takes [] (xs.take p) = Lq := ⟨_, rfl⟩
            rw [hLq] at HOP HTS HSQ HLQ
            obtain ⟨U2, hu1, hu2⟩ := HOP.out.oq
            obtain ⟨A2, cap2, b2, rfl, hi2, hge2⟩ := own_its2 (xs := itsK Lq) (by rw [itsK_len]; exact hu2)
            rw [itsK_len] at hu1 hi2
            have HUB := Lib.hid hu1
            have HPC := Lib.hid (put_sl (w := wr.drew) (hi2.below (Below.refl _ _).drew (fun hl => (hi2.addr hl).2)) HLQ.out HSQ.out ⟨tu, tv, tx, tc⟩)
            have g0 := hu1.cell 0
            have hpI : (p : Int) < (q : Int) := by omega
            clear ht hbl hLq hu1 hu2 hi2 hge2
            simp only at HPC
            go_wp2_with fail
            have e0 : wr.drew.cell? ⟨g, 0, none⟩ = some (.slice A2 Lq.length cap2) := g0
            have e1 : wr.drew.cell? ⟨X, 7, none⟩ = some (.slice (some ⟨b, off, none⟩) q cap) := x7
            have e2 : wr.drew.cell? ⟨b, off + p * 4, none⟩ = some (.string tu) := c0
            have e3 : wr.drew.cell? ⟨b, off + p * 4 + 1, none⟩ = some (.int .i64 tv) := c1
            have e4 : wr.drew.cell? ⟨b, off + p * 4 + 2, none⟩ = some (.bool tx) := c2
            have e5 : wr.drew.cell? ⟨b, off + p * 4 + 3, none⟩ = some (.string tc) := c3
            go_region_with (
                     go_at_call 32
                     (with_reducible refine HPC.out.mono ?_)
                     clear HPC
                     rintro _ w5 ⟨A5, n5, cap5, rfl, ho5, hb5⟩
                     have HB5 := Lib.hid (show Below wr.heap.size wr w5 from (Below.refl _ wr).drew.trans hb5)
                     have HO5 := Lib.hid ho5
                     have HU5 := Lib.hid (HUB.out.below HB5.out HUB.out.lt)
                     have q0 := HU5.out.cell 0
                     have fq0 := HU5.out.frozen 0
                     clear ho5 hb5)
            all_goals (
              have HOW5 := Lib.hid (HOP.out.step HB5.out)
              have HO6 := Lib.hid (HOW5.out.set HXg.out 0 (.slice A5 n5 cap5) ⟨tk1 Lq ⟨tu, tv, tx, tc⟩, tk, mo⟩ (.slice A5 n5 cap5) (fun U _ => rfl) (fun U _ _ => own_down (Nat.le_trans HBB.out (by have := HOP.out.box.lt; exact Nat.le_of_lt this)) HO5.out))
              go_wp2
              go_roundw
              case rel => exact ⟨p + 1, by omega, by go_num, by rw [HTS.out]; exact HO6.out⟩
              case measure => simp [intOf]; omega)
          · obtain rfl : p = q := by omega
            have HQ := Lib.hid (show takes [] (xs.take p) = takes [] xs by rw [List.take_of_length_le (by rw [HI.out.hlen]; omega)])
            rw [HQ.out] at HOP
            obtain ⟨Lq, hLq⟩ : ∃ Lq, takes [] xs = Lq := ⟨_, rfl⟩
            rw [hLq] at HOP H2
            obtain ⟨U2, hu1, hu2⟩ := HOP.out.oq
            have g1 := hu1.cell 1
            have g2 := hu1.cell 2
            have f1 := hu1.frozen 1
            have f2 := hu1.frozen 2
            have x2 := HOP.out.box.cell 2
            have x6 := HOP.out.box.cell 6
            have x7 := HOP.out.box.cell 7
            have hxg := HXg.out
            have HO6 := Lib.hid ((HOP.out.set HXg.out 1 (.int .i64 tok) ⟨Lq, tok, mo⟩ (.slice none 0 0) (fun U _ => rfl) (fun U _ h => h)).set HXg.out 2 (.bool more) ⟨Lq, tok, more⟩ (.slice none 0 0) (fun U _ => rfl) (fun U _ h => h))
            clear hLq HQ hu1 hu2
            go_wp2_with fail
            go_region
            have HO7 := Lib.hid (HO6.out.drewN 1)
            go_wp2
            go_ret
            exact ⟨by rw [H1.out]; rfl, by rw [H2.out]; exact HO7.out.oq, HO7.out.ko⟩
      · have hz2 : (asked == 0) = false := by simpa using hz
        have H2 := Lib.hid (show F = ⟨takes L xs, tok, more⟩ by rw [H0.out, if_neg hz])
        have HS0 := Lib.hid HO1.out
        have HSR := Lib.hid HSS.out
        have HLZ := Lib.hid HLL.out
        clear hz H0
        go_wp2
        clear g0 fg0 x7
        go_loopw [9] (fun i wr => ∃ q' : Nat, q' ≤ q ∧ i = .int .i64 (q' : Int) ∧ Ow w wr B g X #[.int .i64 k, .int .i64 e, .int .i64 tok, .int .i64 ver, .string card, .int .i64 idx, .bool more, .slice A q cap] ⟨takes L (xs.take q'), tk, mo⟩) (fun i _ => q - (intOf i).toNat)
        case atStart => exact ⟨0, Nat.zero_le _, rfl, HS0.out⟩
        case round =>
          obtain ⟨p, hp, rfl, hO⟩ := hrel
          have HOP := Lib.hid hO
          clear hO
          by_cases hpl : p < q
          · obtain ⟨t, ht⟩ : ∃ t, xs[p]? = some t := ⟨xs[p]'(by rw [HI.out.hlen]; exact hpl), List.getElem?_eq_getElem _⟩
            obtain ⟨rfl, hbl⟩ := HI.out.addr (by omega)
            have HTS := Lib.hid (takes_snoc L xs p t ht)
            have HSQ := Lib.hid (takes_srt (xs := xs.take p) HSR.out)
            have HLQ := Lib.hid (show (takes L (xs.take p)).length ≤ 30000 by
              have h1 := takes_len (xs := xs.take p) HSR.out
              have h2 := HLZ.out
              simp only [List.length_take] at h1
              omega)
            obtain ⟨c0, c1, c2, c3⟩ := (HOP.out.its HI.out HBG.out).cell p t ht
            have x7 := HOP.out.box.cell 7
            obtain ⟨tu, tv, tx, tc⟩ := t
            simp only at c0 c1 c2 c3
            obtain ⟨Lq, hLq⟩ : ∃ Lq, takes L (xs.take p) = Lq := ⟨_, rfl⟩
            rw [hLq] at HOP HTS HSQ HLQ
            obtain ⟨U2, hu1, hu2⟩ := HOP.out.oq
            obtain ⟨A2, cap2, b2, rfl, hi2, hge2⟩ := own_its2 (xs := itsK Lq) (by rw [itsK_len]; exact hu2)
            rw [itsK_len] at hu1 hi2
            have HUB := Lib.hid hu1
            have HPC := Lib.hid (put_sl (w := wr.drew) (hi2.below (Below.refl _ _).drew (fun hl => (hi2.addr hl).2)) HLQ.out HSQ.out ⟨tu, tv, tx, tc⟩)
            have g0 := hu1.cell 0
            have hpI : (p : Int) < (q : Int) := by omega
            clear ht hbl hLq hu1 hu2 hi2 hge2
            simp only at HPC
            go_wp2_with fail
            have e0 : wr.drew.cell? ⟨g, 0, none⟩ = some (.slice A2 Lq.length cap2) := g0
            have e1 : wr.drew.cell? ⟨X, 7, none⟩ = some (.slice (some ⟨b, off, none⟩) q cap) := x7
            have e2 : wr.drew.cell? ⟨b, off + p * 4, none⟩ = some (.string tu) := c0
            have e3 : wr.drew.cell? ⟨b, off + p * 4 + 1, none⟩ = some (.int .i64 tv) := c1
            have e4 : wr.drew.cell? ⟨b, off + p * 4 + 2, none⟩ = some (.bool tx) := c2
            have e5 : wr.drew.cell? ⟨b, off + p * 4 + 3, none⟩ = some (.string tc) := c3
            go_region_with (
                     go_at_call 32
                     (with_reducible refine HPC.out.mono ?_)
                     clear HPC
                     rintro _ w5 ⟨A5, n5, cap5, rfl, ho5, hb5⟩
                     have HB5 := Lib.hid (show Below wr.heap.size wr w5 from (Below.refl _ wr).drew.trans hb5)
                     have HO5 := Lib.hid ho5
                     have HU5 := Lib.hid (HUB.out.below HB5.out HUB.out.lt)
                     have q0 := HU5.out.cell 0
                     have fq0 := HU5.out.frozen 0
                     clear ho5 hb5)
            all_goals (
              have HOW5 := Lib.hid (HOP.out.step HB5.out)
              have HO6 := Lib.hid (HOW5.out.set HXg.out 0 (.slice A5 n5 cap5) ⟨tk1 Lq ⟨tu, tv, tx, tc⟩, tk, mo⟩ (.slice A5 n5 cap5) (fun U _ => rfl) (fun U _ _ => own_down (Nat.le_trans HBB.out (by have := HOP.out.box.lt; exact Nat.le_of_lt this)) HO5.out))
              go_wp2
              go_roundw
              case rel => exact ⟨p + 1, by omega, by go_num, by rw [HTS.out]; exact HO6.out⟩
              case measure => simp [intOf]; omega)
          · obtain rfl : p = q := by omega
            have HQ := Lib.hid (show takes L (xs.take p) = takes L xs by rw [List.take_of_length_le (by rw [HI.out.hlen]; omega)])
            rw [HQ.out] at HOP
            obtain ⟨Lq, hLq⟩ : ∃ Lq, takes L xs = Lq := ⟨_, rfl⟩
            rw [hLq] at HOP H2
            obtain ⟨U2, hu1, hu2⟩ := HOP.out.oq
            have g1 := hu1.cell 1
            have g2 := hu1.cell 2
            have f1 := hu1.frozen 1
            have f2 := hu1.frozen 2
            have x2 := HOP.out.box.cell 2
            have x6 := HOP.out.box.cell 6
            have x7 := HOP.out.box.cell 7
            have hxg := HXg.out
            have HO6 := Lib.hid ((HOP.out.set HXg.out 1 (.int .i64 tok) ⟨Lq, tok, mo⟩ (.slice none 0 0) (fun U _ => rfl) (fun U _ h => h)).set HXg.out 2 (.bool more) ⟨Lq, tok, more⟩ (.slice none 0 0) (fun U _ => rfl) (fun U _ h => h))
            clear hLq HQ hu1 hu2
            go_wp2_with fail
            go_region
            have HO7 := Lib.hid (HO6.out.drewN 1)
            go_wp2
            go_ret
            exact ⟨by rw [H1.out]; rfl, by rw [H2.out]; exact HO7.out.oq, HO7.out.ko⟩
end Go.Proofs.Ytpmgabeefppajaa
