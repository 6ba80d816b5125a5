/- RegPlays: any calls, beside the document's own answer. -/
import Derived.Test.YtlfjhbfhnlclpaaMe
namespace Go.Proofs.Ytlfjhbfhnlclpaa
open Go.RowKit
open Go.Lib
set_option linter.unusedVariables false
set_option linter.unusedSimpArgs false
set_option maxRecDepth 100000
theorem wf_small {a : Int} (h : -1 ≤ a) (h2 : a ≤ 1000000) : wf a := by
  unfold wf
  simp [Lit.wf, IntKind.min, IntKind.max, IntKind.signed, IntKind.bits]
  omega
theorem stepO_le {op id : Int} {k : ByteArray} {L L' : LN} {ok : Bool} (hs : Srt L) (h : stepO op k id L = (ok, L')) : L'.length ≤ L.length + 1 := by
  unfold stepO at h
  split at h
  · unfold addO at h
    split at h
    · cases h; omega
    · cases h
      rw [insL_len hs]
      split <;> omega
  · split at h
    · unfold remO at h
      split at h
      · cases h; omega
      · cases h
        have := List.Sublist.length_le (delL_sub (k := k) (L := L))
        omega
    · cases h; omega
/-- A registry and the reference's, side by side. -/
structure Pz (w0 w : World) (r M : Nat) (n : Int) (E : List (Int × Nat)) (L : LN) (c : Nat) (o nL : Nat) (Ak : Option Addr) (ck : Nat) (Av : Option Addr) (cv : Nat) (L2 : LN) : Prop where
  rl : Rl w0 w r M n E L c
  ro : Ro w w0.heap.size o n nL Ak ck Av cv L2
  d : ∀ j, (j = o ∨ rowsAt Ak nL ck Av cv j) → j ∉ blocks r M E
section
variable {w0 w w' : World} {r M c c' o nL ck cv : Nat} {n : Int} {E : List (Int × Nat)} {L L' L2 L2' : LN} {Ak Av : Option Addr}
theorem Ro.keep {B : Nat} (h : Ro w B o n nL Ak ck Av cv L) (hs : w.heap.size ≤ w'.heap.size) (hb : ∀ j, (j = o ∨ rowsAt Ak nL ck Av cv j) → w'.heap[j]? = w.heap[j]?) : Ro w' B o n nL Ak ck Av cv L :=
  ⟨(hb o (.inl rfl)).trans h.box, row_keep h.kr (fun j hj => hb j (.inr (.inl hj))), row_keep h.vr (fun j hj => hb j (.inr (.inr hj))), h.hl, h.ge, Nat.le_trans h.bs hs, h.srt⟩
theorem Ro.lts {B : Nat} (h : Ro w B o n nL Ak ck Av cv L) (j : Nat) (hj : j = o ∨ rowsAt Ak nL ck Av cv j) : j < w.heap.size := by
  rcases hj with rfl | e | e
  · exact h.box.lt
  · exact (h.kr.lt j e).2
  · exact (h.vr.lt j e).2
theorem Pz.below (h : Pz w0 w r M n E L c o nL Ak ck Av cv L2) (hb : Below w.heap.size w w') : Pz w0 w' r M n E L c o nL Ak ck Av cv L2 := ⟨h.rl.below hb, h.ro.below hb, h.d⟩
theorem Pz.drewN (h : Pz w0 w r M n E L c o nL Ak ck Av cv L2) (q : Nat) : Pz w0 (w.drewN q) r M n E L c o nL Ak ck Av cv L2 := h.below (below_drewN (Below.refl _ w) q)
theorem Pz.left (h : Pz w0 w r M n E L c o nL Ak ck Av cv L2) (k : Went w w' r M n E L' c') : ∃ E', Pz w0 w' r M n E' L' c' o nL Ak ck Av cv L2 ∧ ∀ j, j < w.heap.size → j ∉ blocks r M E → w'.heap[j]? = w.heap[j]? := by
  obtain ⟨E', h1, h2⟩ := h.rl.past k
  exact ⟨E', ⟨h1, h.ro.keep h2.1 (fun j hj => (h2.2.2 j (h.ro.lts j hj) (h.d j hj)).1), fun j hj => (h2.2.2 j (h.ro.lts j hj) (h.d j hj)).2⟩, fun j h1 h3 => (h2.2.2 j h1 h3).1⟩
theorem Pz.right (h : Pz w0 w r M n E L c o nL Ak ck Av cv L2) (k : Rw w w' w0.heap.size o n nL Ak ck Av cv L2') : ∃ nL' Ak' ck' Av' cv', Pz w0 w' r M n E L c o nL' Ak' ck' Av' cv' L2' ∧ ∀ j, j < w.heap.size → j ≠ o → w'.heap[j]? = w.heap[j]? := by
  obtain ⟨nL', Ak', ck', Av', cv', h1, h2, h3, h4⟩ := k
  have ho : ∀ j ∈ blocks r M E, j ∉ [o] := fun j hj e => by
    simp at e
    exact h.d o (.inl rfl) (e ▸ hj)
  refine ⟨nL', Ak', ck', Av', cv', ⟨⟨h.rl.rg.keep (fun j hj => h2.block j (h.rl.rg.lts j hj) (ho j hj)) h3, h.rl.bel.trans (h2.below h.rl.bel.size (fun j hj => ?_)), h.rl.ge⟩, h1, fun j hj => ?_⟩, fun j hj hn => h2.block j hj (by simpa using hn)⟩
  · simp at hj
    rw [hj]
    exact h.ro.ge
  · rcases hj with rfl | e
    · exact h.d _ (.inl rfl)
    · rcases h4 j e with e | e
      · exact h.d j (.inr e)
      · exact fun hj => by have := h.rl.rg.lts j hj; omega
end
set_option maxHeartbeats 16000000 in
theorem plays_in (w : World) (s : Int) (hs : s ≤ 9223372036854775807) (A : Option Addr) (len cap b off : Nat) (xs : Nat → A3) (hl : len ≤ cap) (hm : cap ≤ maxLen) (hA : Acts w A len b off xs) (px : ByteArray) :
    Calls Try.prog 3 #[.int .i64 s, .slice A len cap, .string px] w fun e w' => e = .returned (.bool true) ∧ Below w.heap.size w w' := by
  have HA := Lib.hid hA
  have HM := Lib.hid hm
  have HLC := Lib.hid hl
  clear hA hm hl
  go_enter Try.func3, Try.ntmps3
  go_wp2_with fail
  refine (first_any _).mono ?_
  rintro _ w1 ⟨rfl, hb⟩
  have HB1 := Lib.hid hb
  have HA1 := Lib.hid (HA.out.keep hb)
  clear hb
  go_wp2_with fail
  refine (light_any w1 s A len cap b off xs HLC.out HM.out HA1.out).mono ?_
  rintro _ wz ⟨⟨bb, rfl, hlt⟩, hw0⟩
  replace hw0 := hw0.symm
  subst hw0
  have HLT := Lib.hid hlt
  clear hlt
  cases bb with
  | false =>
    go_wp2_with fail
    refine (first_any _).mono ?_
    rintro _ w2 ⟨rfl, hb⟩
    have HB2 := Lib.hid hb
    clear hb
    go_wp2
    go_ret
    exact ⟨rfl, HB1.out.trans (HB2.out.mono HB1.out.size)⟩
  | true =>
    obtain ⟨h64, h80, h40⟩ := HLT.out rfl
    have H40 := Lib.hid h40
    clear h40 HLT
    by_cases hg : (px.size : Int) > 40
    · go_wp2_with fail
      refine (first_any _).mono ?_
      rintro _ w2 ⟨rfl, hb⟩
      have HB2 := Lib.hid hb
      clear hb
      go_wp2
      go_ret
      exact ⟨rfl, HB1.out.trans (HB2.out.mono HB1.out.size)⟩
    have hgN0205 : ¬ (px.size : Int) > 40 := by exact hg
    have hgN1205 : px.size ≤ 40 := by omega
    have hgH0 := Lib.hid hg
    clear hg
    obtain ⟨n, hn⟩ : ∃ n, max s 1 = n := ⟨_, rfl⟩
    have HN := Lib.hid hn
    clear hn
    go_wp2_with fail
    refine (new_reg s w1 hs n HN.out).mono ?_
    rintro _ wA ⟨r, M, rfl, h1, hb, hr, hM⟩
    have HR0 := Lib.hid (show Rl w1 wA r M n [] [] (2 * 0) from ⟨h1, hb, fun j hj => by simp [blocks] at hj; rcases hj with rfl | rfl <;> assumption⟩)
    clear h1 hb hr hM
    go_wp2_with fail
    refine (rnew_any s wA n HN.out wA.heap.size (Nat.le_refl _)).mono ?_
    rintro _ wB ⟨o, rfl, h1, hb⟩
    have HP0 := Lib.hid (show Pz w1 wB r M n [] [] (2 * 0) o 0 none 0 none 0 [] from ⟨HR0.out.below hb, ⟨h1.box, ⟨rfl, .inl ⟨rfl, rfl⟩⟩, ⟨rfl, .inl ⟨rfl, rfl⟩⟩, rfl, Nat.le_trans HR0.out.bel.size h1.ge, Nat.le_trans HR0.out.bel.size hb.size, h1.srt⟩, fun j hj e => by
      have := HR0.out.rg.lts j e
      have := h1.ge
      rcases hj with rfl | e | e
      · omega
      · cases e
      · cases e⟩)
    clear h1 hb
    go_wp2_with fail
    go_loopw [9] (fun i wr => ∃ (k : Nat) (E : List (Int × Nat)) (L : LN) (nL : Nat) (Ak : Option Addr) (ck : Nat) (Av : Option Addr) (cv : Nat), k ≤ len ∧ i = .int .i64 (k : Int) ∧ Pz w1 wr r M n E L (2 * k) o nL Ak ck Av cv L) (fun i _ => len - (intOf i).toNat)
    case atStart => exact ⟨0, [], [], 0, none, 0, none, 0, Nat.zero_le _, rfl, HP0.out⟩
    case round =>
      obtain ⟨k, E, L, nL, Ak, ck, Av, cv, hk, rfl, hc⟩ := hrel
      have HC := Lib.hid hc
      clear hc
      by_cases hlt : k < len
      · obtain ⟨c0, c1, c2, _⟩ := (HA1.out.keep HC.out.rl.bel).2 k hlt
        obtain rfl := (HA1.out.1 (by omega)).1
        have hltI : (k : Int) < (len : Int) := by omega
        have H40k := Lib.hid (H40.out k hlt)
        obtain ⟨op, hop⟩ : ∃ op, (xs k).1 = op := ⟨_, rfl⟩
        obtain ⟨kk, hkk⟩ : ∃ kk, (xs k).2.1 = kk := ⟨_, rfl⟩
        obtain ⟨idd, hid⟩ : ∃ idd, (xs k).2.2 = idd := ⟨_, rfl⟩
        rw [hop] at c0
        rw [hkk] at c1 H40k
        rw [hid] at c2
        obtain ⟨⟨ok, L'⟩, hso⟩ : ∃ p, stepO op kk idd L = p := ⟨_, rfl⟩
        have HSO := Lib.hid hso
        have HLB := Lib.hid (show L'.length ≤ 161 from by
          have h1 := HC.out.rl.rg.ll
          have h2 := stepO_le HC.out.rl.rg.srt hso
          omega)
        have hnL : nL ≤ 160 := by have h1 := HC.out.rl.rg.ll; have h2 := HC.out.ro.hl; omega
        obtain ⟨v, hv⟩ : ∃ v, findO kk L' = v := ⟨_, rfl⟩
        have HV := Lib.hid hv
        have hokk : (ok != ok) = false := by simp
        have hvv : (v != v) = false := by simp
        clear hop hkk hid hv hso
        obtain ⟨n9, hn9⟩ : ∃ n, wr.heap.size = n := ⟨_, rfl⟩
        obtain ⟨W1, hW1⟩ : ∃ W1, wr.alloc (.cells #[.int .i64 0, .string { data := #[] }, .int .i64 0] 30) = W1 := ⟨_, rfl⟩
        have HC1 := Lib.hid (show Below wr.heap.size wr W1 from hW1 ▸ (Below.refl _ wr).alloc (Nat.le_refl _) _)
        have HY1 := Lib.hid (show Blk W1 n9 30 #[.int .i64 0, .string .empty, .int .i64 0] from hn9 ▸ hW1 ▸ Blk.new wr 30 _)
        have y0 := HY1.out.cell 0
        have y1 := HY1.out.cell 1
        have y2 := HY1.out.cell 2
        have f0 := HY1.out.frozen 0
        have f1 := HY1.out.frozen 1
        have f2 := HY1.out.frozen 2
        obtain ⟨w2, hw2⟩ : ∃ w2, ((W1.setCell ⟨n9, 0, none⟩ (.int .i64 op)).setCell ⟨n9, 1, none⟩ (.string kk)).setCell ⟨n9, 2, none⟩ (.int .i64 idd) = w2 := ⟨_, rfl⟩
        have HB2 := Lib.hid (show Blk w2 n9 30 #[.int .i64 op, .string kk, .int .i64 idd] from hw2 ▸ (((HY1.out.set_ 0 _).set_ 1 _).set_ 2 _))
        have HC2 := Lib.hid (show Below n9 wr w2 from hw2 ▸ (((((HC1.out.mono (Nat.le_of_eq hn9.symm)).setCell (p := ⟨n9, 0, none⟩) (Nat.le_refl _) _).setCell (p := ⟨n9, 1, none⟩) (Nat.le_refl _) _).setCell (p := ⟨n9, 2, none⟩) (Nat.le_refl _) _)))
        have H2 := Lib.hid (HC.out.below (HC2.out.mono (Nat.le_of_eq hn9)))
        have HON := Lib.hid (show n9 ≠ o from by have := HC.out.ro.box.lt; omega)
        have HNB := Lib.hid (show n9 ∉ blocks r M E from fun e => by have := HC.out.rl.rg.lts n9 e; omega)
        have z0 : w2.cell? ⟨n9, 0, none⟩ = some (.int .i64 op) := HB2.out.cell 0
        have z1 : w2.cell? ⟨n9, 1, none⟩ = some (.string kk) := HB2.out.cell 1
        have z2 : w2.cell? ⟨n9, 2, none⟩ = some (.int .i64 idd) := HB2.out.cell 2
        by_cases h0 : op = 0
        · have h0b : (op == 0) = true := by simpa using h0
          have HAC := Lib.hid (radd_any H2.out.ro (by omega) kk idd ok L' (by have := HSO.out; unfold stepO at this; rw [if_pos h0] at this; exact this))
          clear h0
          go_wp2_with fail
          try rw [hw2]
          clear hw2 y0 y1 y2 f0 f1 f2 HY1 HC1 hW1 c0 c1 c2
          go_wp2_with fail
          refine HAC.out.mono ?_
          rintro _ w3 ⟨rfl, h3⟩
          obtain ⟨nL', Ak', ck', Av', cv', h3, hq3⟩ := H2.out.right h3
          have H3 := Lib.hid h3
          have HQ3 := Lib.hid hq3
          clear h3 hq3 HAC z0 z1 z2
          have hbb : ∀ j, j < w2.heap.size → j ≠ o → w3.heap[j]? = w2.heap[j]? := HQ3.out
          have HB3 := Lib.hid (show Blk w3 n9 30 #[.int .i64 op, .string kk, .int .i64 idd] from (hbb n9 HB2.out.lt HON.out).trans HB2.out)
          have z0 : w3.cell? ⟨n9, 0, none⟩ = some (.int .i64 op) := HB3.out.cell 0
          have z1 : w3.cell? ⟨n9, 1, none⟩ = some (.string kk) := HB3.out.cell 1
          have z2 : w3.cell? ⟨n9, 2, none⟩ = some (.int .i64 idd) := HB3.out.cell 2
          have z0d : w3.drew.cell? ⟨n9, 0, none⟩ = some (.int .i64 op) := z0
          have z1d : w3.drew.cell? ⟨n9, 1, none⟩ = some (.string kk) := z1
          have z2d : w3.drew.cell? ⟨n9, 2, none⟩ = some (.int .i64 idd) := z2
          have H3d := Lib.hid (H3.out.below ((Below.refl _ w3).drew))
          have HS1 := Lib.hid (step_any H3d.out.rl.rg (by omega) op idd kk H40k.out ok L' HSO.out)
          have HN9 := Lib.hid (fun (h : n9 ∈ blocks r M E) => HNB.out h)
          have hnl : nL' ≤ 400 := by have h1 := H3.out.ro.hl; have h2 := HLB.out; omega
          clear hbb
          go_wp2_with fail
          go_region_held3 (fun w' => w'.cell? ⟨n9, 0, none⟩ = some (.int .i64 op) ∧ w'.cell? ⟨n9, 1, none⟩ = some (.string kk) ∧ w'.cell? ⟨n9, 2, none⟩ = some (.int .i64 idd)) (first | exact ⟨z0d, z1d, z2d⟩ | exact e1) (first
            | (go_at_call 15
               (with_reducible refine (HS1.out).mono ?_)
               rintro _ w4 ⟨rfl, h4⟩
               obtain ⟨E', h4, hq4⟩ := H3d.out.left h4
               have H4 := Lib.hid h4
               have HB4 := Lib.hid (show Blk w4 n9 30 #[.int .i64 op, .string kk, .int .i64 idd] from (hq4 n9 HB3.out.lt HN9.out).trans HB3.out)
               have HF1 := Lib.hid (find_any H4.out.rl.rg kk (by have := H40k.out; omega) v HV.out)
               have e1 := (⟨HB4.out.cell 0, HB4.out.cell 1, HB4.out.cell 2⟩ : w4.cell? ⟨n9, 0, none⟩ = some (.int .i64 op) ∧ w4.cell? ⟨n9, 1, none⟩ = some (.string kk) ∧ w4.cell? ⟨n9, 2, none⟩ = some (.int .i64 idd))
               clear h4 hq4)
            | (go_at_call 16
               (with_reducible refine (HF1.out).mono ?_)
               rintro _ w5 ⟨rfl, rfl⟩
               have H5 := Lib.hid (H4.out.drewN 1)
               have HF2 := Lib.hid (rfind_any H5.out.ro (by omega) kk v HV.out))
            | (go_at_call 14
               (with_reducible refine (HF2.out).mono ?_)
               rintro _ w6 ⟨rfl, hb⟩
               have H6 := Lib.hid (H5.out.below hb)
               have HB6 := Lib.hid (show Blk w6 n9 30 #[.int .i64 op, .string kk, .int .i64 idd] from (show Blk (w4.drewN 1) n9 30 _ from HB4.out).below hb HB4.out.lt)
               have HL1 := Lib.hid (len_reg H6.out.rl.rg (by omega) nL' H6.out.ro.hl)
               have e1 := (⟨HB6.out.cell 0, HB6.out.cell 1, HB6.out.cell 2⟩ : w6.cell? ⟨n9, 0, none⟩ = some (.int .i64 op) ∧ w6.cell? ⟨n9, 1, none⟩ = some (.string kk) ∧ w6.cell? ⟨n9, 2, none⟩ = some (.int .i64 idd))
               clear hb)
            | (go_at_call 17
               (with_reducible refine (HL1.out).mono ?_)
               rintro _ w7 ⟨rfl, hb⟩
               have H7 := Lib.hid (H6.out.below hb)
               have HB7 := Lib.hid (HB6.out.below hb HB6.out.lt)
               have HL2 := Lib.hid (rlen_any H7.out.ro)
               have e1 := (⟨HB7.out.cell 0, HB7.out.cell 1, HB7.out.cell 2⟩ : w7.cell? ⟨n9, 0, none⟩ = some (.int .i64 op) ∧ w7.cell? ⟨n9, 1, none⟩ = some (.string kk) ∧ w7.cell? ⟨n9, 2, none⟩ = some (.int .i64 idd))
               clear hb)
            | (go_at_call 18
               (with_reducible refine (HL2.out).mono ?_)
               rintro _ wz ⟨rfl, hw0⟩
               replace hw0 := hw0.symm
               subst hw0)
            | fail)
          all_goals (
            go_wp2_with fail
            go_roundw
            case rel => exact ⟨k + 1, _, _, _, _, _, _, _, by omega, by go_num, H7.out⟩
            case measure => simp [intOf]; omega)
        · have h0b : (op == 0) = false := by simpa using h0
          by_cases h1 : op = 1
          · have h1b : (op == 1) = true := by simpa using h1
            have HAC := Lib.hid (rrem_any H2.out.ro (by omega) HC.out.rl.rg.pos kk idd ok L' (by have := HSO.out; unfold stepO at this; rw [if_neg h0, if_pos h1] at this; exact this))
            clear h0 h1
            go_wp2_with fail
            try rw [hw2]
            clear hw2 y0 y1 y2 f0 f1 f2 HY1 HC1 hW1 c0 c1 c2
            go_wp2_with fail
            refine HAC.out.mono ?_
            rintro _ w3 ⟨rfl, h3⟩
            obtain ⟨nL', Ak', ck', Av', cv', h3, hq3⟩ := H2.out.right h3
            have H3 := Lib.hid h3
            have HQ3 := Lib.hid hq3
            clear h3 hq3 HAC z0 z1 z2
            have hbb : ∀ j, j < w2.heap.size → j ≠ o → w3.heap[j]? = w2.heap[j]? := HQ3.out
            have HB3 := Lib.hid (show Blk w3 n9 30 #[.int .i64 op, .string kk, .int .i64 idd] from (hbb n9 HB2.out.lt HON.out).trans HB2.out)
            have z0 : w3.cell? ⟨n9, 0, none⟩ = some (.int .i64 op) := HB3.out.cell 0
            have z1 : w3.cell? ⟨n9, 1, none⟩ = some (.string kk) := HB3.out.cell 1
            have z2 : w3.cell? ⟨n9, 2, none⟩ = some (.int .i64 idd) := HB3.out.cell 2
            have z0d : w3.drew.cell? ⟨n9, 0, none⟩ = some (.int .i64 op) := z0
            have z1d : w3.drew.cell? ⟨n9, 1, none⟩ = some (.string kk) := z1
            have z2d : w3.drew.cell? ⟨n9, 2, none⟩ = some (.int .i64 idd) := z2
            have H3d := Lib.hid (H3.out.below ((Below.refl _ w3).drew))
            have HS1 := Lib.hid (step_any H3d.out.rl.rg (by omega) op idd kk H40k.out ok L' HSO.out)
            have HN9 := Lib.hid (fun (h : n9 ∈ blocks r M E) => HNB.out h)
            have hnl : nL' ≤ 400 := by have h1 := H3.out.ro.hl; have h2 := HLB.out; omega
            clear hbb
            go_wp2_with fail
            go_region_held3 (fun w' => w'.cell? ⟨n9, 0, none⟩ = some (.int .i64 op) ∧ w'.cell? ⟨n9, 1, none⟩ = some (.string kk) ∧ w'.cell? ⟨n9, 2, none⟩ = some (.int .i64 idd)) (first | exact ⟨z0d, z1d, z2d⟩ | exact e1) (first
              | (go_at_call 15
                 (with_reducible refine (HS1.out).mono ?_)
                 rintro _ w4 ⟨rfl, h4⟩
                 obtain ⟨E', h4, hq4⟩ := H3d.out.left h4
                 have H4 := Lib.hid h4
                 have HB4 := Lib.hid (show Blk w4 n9 30 #[.int .i64 op, .string kk, .int .i64 idd] from (hq4 n9 HB3.out.lt HN9.out).trans HB3.out)
                 have HF1 := Lib.hid (find_any H4.out.rl.rg kk (by have := H40k.out; omega) v HV.out)
                 have e1 := (⟨HB4.out.cell 0, HB4.out.cell 1, HB4.out.cell 2⟩ : w4.cell? ⟨n9, 0, none⟩ = some (.int .i64 op) ∧ w4.cell? ⟨n9, 1, none⟩ = some (.string kk) ∧ w4.cell? ⟨n9, 2, none⟩ = some (.int .i64 idd))
                 clear h4 hq4)
              | (go_at_call 16
                 (with_reducible refine (HF1.out).mono ?_)
                 rintro _ w5 ⟨rfl, rfl⟩
                 have H5 := Lib.hid (H4.out.drewN 1)
                 have HF2 := Lib.hid (rfind_any H5.out.ro (by omega) kk v HV.out))
              | (go_at_call 14
                 (with_reducible refine (HF2.out).mono ?_)
                 rintro _ w6 ⟨rfl, hb⟩
                 have H6 := Lib.hid (H5.out.below hb)
                 have HB6 := Lib.hid (show Blk w6 n9 30 #[.int .i64 op, .string kk, .int .i64 idd] from (show Blk (w4.drewN 1) n9 30 _ from HB4.out).below hb HB4.out.lt)
                 have HL1 := Lib.hid (len_reg H6.out.rl.rg (by omega) nL' H6.out.ro.hl)
                 have e1 := (⟨HB6.out.cell 0, HB6.out.cell 1, HB6.out.cell 2⟩ : w6.cell? ⟨n9, 0, none⟩ = some (.int .i64 op) ∧ w6.cell? ⟨n9, 1, none⟩ = some (.string kk) ∧ w6.cell? ⟨n9, 2, none⟩ = some (.int .i64 idd))
                 clear hb)
              | (go_at_call 17
                 (with_reducible refine (HL1.out).mono ?_)
                 rintro _ w7 ⟨rfl, hb⟩
                 have H7 := Lib.hid (H6.out.below hb)
                 have HB7 := Lib.hid (HB6.out.below hb HB6.out.lt)
                 have HL2 := Lib.hid (rlen_any H7.out.ro)
                 have e1 := (⟨HB7.out.cell 0, HB7.out.cell 1, HB7.out.cell 2⟩ : w7.cell? ⟨n9, 0, none⟩ = some (.int .i64 op) ∧ w7.cell? ⟨n9, 1, none⟩ = some (.string kk) ∧ w7.cell? ⟨n9, 2, none⟩ = some (.int .i64 idd))
                 clear hb)
              | (go_at_call 18
                 (with_reducible refine (HL2.out).mono ?_)
                 rintro _ wz ⟨rfl, hw0⟩
                 replace hw0 := hw0.symm
                 subst hw0)
              | fail)
            all_goals (
              go_wp2_with fail
              go_roundw
              case rel => exact ⟨k + 1, _, _, _, _, _, _, _, by omega, by go_num, H7.out⟩
              case measure => simp [intOf]; omega)
          · have h1b : (op == 1) = false := by simpa using h1
            obtain ⟨hok, rfl⟩ : decide (0 ≤ findO kk L) = ok ∧ L = L' := by
              have := HSO.out
              unfold stepO at this
              rw [if_neg h0, if_neg h1] at this
              cases this
              exact ⟨rfl, rfl⟩
            have hokv : decide (0 ≤ v) = ok := by rw [← HV.out]; exact hok
            have HAC := Lib.hid (rfind_any H2.out.ro (by omega) kk v HV.out)
            have HOK := Lib.hid hokv
            clear h0 h1 hok hokv
            go_wp2_with fail
            try rw [hw2]
            clear hw2 y0 y1 y2 f0 f1 f2 HY1 HC1 hW1 c0 c1 c2
            go_wp2_with fail
            refine HAC.out.mono ?_
            rintro _ w3 ⟨rfl, hb3⟩
            have H3 := Lib.hid (H2.out.below hb3)
            have HQ3 := Lib.hid (show ∀ j, j < w2.heap.size → j ≠ o → w3.heap[j]? = w2.heap[j]? from fun j hj _ => hb3.block j hj)
            clear hb3 HAC z0 z1 z2
            by_cases hv0 : v ≥ 0
            · have hv0b : decide (0 ≤ v) = true := decide_eq_true hv0
              obtain rfl : ok = true := by rw [← HOK.out]; exact hv0b
              clear hv0b
              have hbb : ∀ j, j < w2.heap.size → j ≠ o → w3.heap[j]? = w2.heap[j]? := HQ3.out
              have HB3 := Lib.hid (show Blk w3 n9 30 #[.int .i64 op, .string kk, .int .i64 idd] from (hbb n9 HB2.out.lt HON.out).trans HB2.out)
              have z0 : w3.cell? ⟨n9, 0, none⟩ = some (.int .i64 op) := HB3.out.cell 0
              have z1 : w3.cell? ⟨n9, 1, none⟩ = some (.string kk) := HB3.out.cell 1
              have z2 : w3.cell? ⟨n9, 2, none⟩ = some (.int .i64 idd) := HB3.out.cell 2
              have z0d : w3.drew.cell? ⟨n9, 0, none⟩ = some (.int .i64 op) := z0
              have z1d : w3.drew.cell? ⟨n9, 1, none⟩ = some (.string kk) := z1
              have z2d : w3.drew.cell? ⟨n9, 2, none⟩ = some (.int .i64 idd) := z2
              have H3d := Lib.hid (H3.out.below ((Below.refl _ w3).drew))
              have HS1 := Lib.hid (step_any H3d.out.rl.rg (by omega) op idd kk H40k.out true L HSO.out)
              have HN9 := Lib.hid (fun (h : n9 ∈ blocks r M E) => HNB.out h)
              have hnl : nL ≤ 400 := by have h1 := H3.out.ro.hl; have h2 := HLB.out; omega
              clear hbb
              go_wp2_with fail
              go_region_held3 (fun w' => w'.cell? ⟨n9, 0, none⟩ = some (.int .i64 op) ∧ w'.cell? ⟨n9, 1, none⟩ = some (.string kk) ∧ w'.cell? ⟨n9, 2, none⟩ = some (.int .i64 idd)) (first | exact ⟨z0d, z1d, z2d⟩ | exact e1) (first
                | (go_at_call 15
                   (with_reducible refine (HS1.out).mono ?_)
                   rintro _ w4 ⟨rfl, h4⟩
                   obtain ⟨E', h4, hq4⟩ := H3d.out.left h4
                   have H4 := Lib.hid h4
                   have HB4 := Lib.hid (show Blk w4 n9 30 #[.int .i64 op, .string kk, .int .i64 idd] from (hq4 n9 HB3.out.lt HN9.out).trans HB3.out)
                   have HF1 := Lib.hid (find_any H4.out.rl.rg kk (by have := H40k.out; omega) v HV.out)
                   have e1 := (⟨HB4.out.cell 0, HB4.out.cell 1, HB4.out.cell 2⟩ : w4.cell? ⟨n9, 0, none⟩ = some (.int .i64 op) ∧ w4.cell? ⟨n9, 1, none⟩ = some (.string kk) ∧ w4.cell? ⟨n9, 2, none⟩ = some (.int .i64 idd))
                   clear h4 hq4)
                | (go_at_call 16
                   (with_reducible refine (HF1.out).mono ?_)
                   rintro _ w5 ⟨rfl, rfl⟩
                   have H5 := Lib.hid (H4.out.drewN 1)
                   have HF2 := Lib.hid (rfind_any H5.out.ro (by omega) kk v HV.out))
                | (go_at_call 14
                   (with_reducible refine (HF2.out).mono ?_)
                   rintro _ w6 ⟨rfl, hb⟩
                   have H6 := Lib.hid (H5.out.below hb)
                   have HB6 := Lib.hid (show Blk w6 n9 30 #[.int .i64 op, .string kk, .int .i64 idd] from (show Blk (w4.drewN 1) n9 30 _ from HB4.out).below hb HB4.out.lt)
                   have HL1 := Lib.hid (len_reg H6.out.rl.rg (by omega) nL H6.out.ro.hl)
                   have e1 := (⟨HB6.out.cell 0, HB6.out.cell 1, HB6.out.cell 2⟩ : w6.cell? ⟨n9, 0, none⟩ = some (.int .i64 op) ∧ w6.cell? ⟨n9, 1, none⟩ = some (.string kk) ∧ w6.cell? ⟨n9, 2, none⟩ = some (.int .i64 idd))
                   clear hb)
                | (go_at_call 17
                   (with_reducible refine (HL1.out).mono ?_)
                   rintro _ w7 ⟨rfl, hb⟩
                   have H7 := Lib.hid (H6.out.below hb)
                   have HB7 := Lib.hid (HB6.out.below hb HB6.out.lt)
                   have HL2 := Lib.hid (rlen_any H7.out.ro)
                   have e1 := (⟨HB7.out.cell 0, HB7.out.cell 1, HB7.out.cell 2⟩ : w7.cell? ⟨n9, 0, none⟩ = some (.int .i64 op) ∧ w7.cell? ⟨n9, 1, none⟩ = some (.string kk) ∧ w7.cell? ⟨n9, 2, none⟩ = some (.int .i64 idd))
                   clear hb)
                | (go_at_call 18
                   (with_reducible refine (HL2.out).mono ?_)
                   rintro _ wz ⟨rfl, hw0⟩
                   replace hw0 := hw0.symm
                   subst hw0)
                | fail)
              all_goals (
                go_wp2_with fail
                go_roundw
                case rel => exact ⟨k + 1, _, _, _, _, _, _, _, by omega, by go_num, H7.out⟩
                case measure => simp [intOf]; omega)
            · have hv0b : decide (0 ≤ v) = false := decide_eq_false (by omega)
              obtain rfl : ok = false := by rw [← HOK.out]; exact hv0b
              have hbb : ∀ j, j < w2.heap.size → j ≠ o → w3.heap[j]? = w2.heap[j]? := HQ3.out
              have HB3 := Lib.hid (show Blk w3 n9 30 #[.int .i64 op, .string kk, .int .i64 idd] from (hbb n9 HB2.out.lt HON.out).trans HB2.out)
              have z0 : w3.cell? ⟨n9, 0, none⟩ = some (.int .i64 op) := HB3.out.cell 0
              have z1 : w3.cell? ⟨n9, 1, none⟩ = some (.string kk) := HB3.out.cell 1
              have z2 : w3.cell? ⟨n9, 2, none⟩ = some (.int .i64 idd) := HB3.out.cell 2
              have z0d : w3.drew.cell? ⟨n9, 0, none⟩ = some (.int .i64 op) := z0
              have z1d : w3.drew.cell? ⟨n9, 1, none⟩ = some (.string kk) := z1
              have z2d : w3.drew.cell? ⟨n9, 2, none⟩ = some (.int .i64 idd) := z2
              have H3d := Lib.hid (H3.out.below ((Below.refl _ w3).drew))
              have HS1 := Lib.hid (step_any H3d.out.rl.rg (by omega) op idd kk H40k.out false L HSO.out)
              have HN9 := Lib.hid (fun (h : n9 ∈ blocks r M E) => HNB.out h)
              have hnl : nL ≤ 400 := by have h1 := H3.out.ro.hl; have h2 := HLB.out; omega
              clear hbb
              go_wp2_with fail
              go_region_held3 (fun w' => w'.cell? ⟨n9, 0, none⟩ = some (.int .i64 op) ∧ w'.cell? ⟨n9, 1, none⟩ = some (.string kk) ∧ w'.cell? ⟨n9, 2, none⟩ = some (.int .i64 idd)) (first | exact ⟨z0d, z1d, z2d⟩ | exact e1) (first
                | (go_at_call 15
                   (with_reducible refine (HS1.out).mono ?_)
                   rintro _ w4 ⟨rfl, h4⟩
                   obtain ⟨E', h4, hq4⟩ := H3d.out.left h4
                   have H4 := Lib.hid h4
                   have HB4 := Lib.hid (show Blk w4 n9 30 #[.int .i64 op, .string kk, .int .i64 idd] from (hq4 n9 HB3.out.lt HN9.out).trans HB3.out)
                   have HF1 := Lib.hid (find_any H4.out.rl.rg kk (by have := H40k.out; omega) v HV.out)
                   have e1 := (⟨HB4.out.cell 0, HB4.out.cell 1, HB4.out.cell 2⟩ : w4.cell? ⟨n9, 0, none⟩ = some (.int .i64 op) ∧ w4.cell? ⟨n9, 1, none⟩ = some (.string kk) ∧ w4.cell? ⟨n9, 2, none⟩ = some (.int .i64 idd))
                   clear h4 hq4)
                | (go_at_call 16
                   (with_reducible refine (HF1.out).mono ?_)
                   rintro _ w5 ⟨rfl, rfl⟩
                   have H5 := Lib.hid (H4.out.drewN 1)
                   have HF2 := Lib.hid (rfind_any H5.out.ro (by omega) kk v HV.out))
                | (go_at_call 14
                   (with_reducible refine (HF2.out).mono ?_)
                   rintro _ w6 ⟨rfl, hb⟩
                   have H6 := Lib.hid (H5.out.below hb)
                   have HB6 := Lib.hid (show Blk w6 n9 30 #[.int .i64 op, .string kk, .int .i64 idd] from (show Blk (w4.drewN 1) n9 30 _ from HB4.out).below hb HB4.out.lt)
                   have HL1 := Lib.hid (len_reg H6.out.rl.rg (by omega) nL H6.out.ro.hl)
                   have e1 := (⟨HB6.out.cell 0, HB6.out.cell 1, HB6.out.cell 2⟩ : w6.cell? ⟨n9, 0, none⟩ = some (.int .i64 op) ∧ w6.cell? ⟨n9, 1, none⟩ = some (.string kk) ∧ w6.cell? ⟨n9, 2, none⟩ = some (.int .i64 idd))
                   clear hb)
                | (go_at_call 17
                   (with_reducible refine (HL1.out).mono ?_)
                   rintro _ w7 ⟨rfl, hb⟩
                   have H7 := Lib.hid (H6.out.below hb)
                   have HB7 := Lib.hid (HB6.out.below hb HB6.out.lt)
                   have HL2 := Lib.hid (rlen_any H7.out.ro)
                   have e1 := (⟨HB7.out.cell 0, HB7.out.cell 1, HB7.out.cell 2⟩ : w7.cell? ⟨n9, 0, none⟩ = some (.int .i64 op) ∧ w7.cell? ⟨n9, 1, none⟩ = some (.string kk) ∧ w7.cell? ⟨n9, 2, none⟩ = some (.int .i64 idd))
                   clear hb)
                | (go_at_call 18
                   (with_reducible refine (HL2.out).mono ?_)
                   rintro _ wz ⟨rfl, hw0⟩
                   replace hw0 := hw0.symm
                   subst hw0)
                | fail)
              all_goals (
                go_wp2_with fail
                go_roundw
                case rel => exact ⟨k + 1, _, _, _, _, _, _, _, by omega, by go_num, H7.out⟩
                case measure => simp [intOf]; omega)
      · obtain rfl : k = len := by omega
        have hltI : ¬ (k : Int) < (k : Int) := by omega
        have HLL := Lib.hid HC.out.rl.rg.ll
        have hn1 := HC.out.rl.rg.n1
        obtain ⟨nn, rfl⟩ : ∃ nn : Nat, n = (nn : Int) := ⟨n.toNat, by omega⟩
        have hn64 : nn ≤ 64 := by have := HN.out; omega
        have hnL : nL ≤ 160 := by have h1 := HC.out.rl.rg.ll; have h2 := HC.out.ro.hl; omega
        clear hlt hk
        go_wp2_with fail
        go_loopw [12] (fun i wq => ∃ q : Nat, q ≤ nn + 2 ∧ i = .int .i64 ((q : Int) - 1) ∧ Pz w1 wq r M nn E L (2 * k) o nL Ak ck Av cv L) (fun i _ => nn + 3 - (intOf i + 1).toNat)
        case atStart => exact ⟨0, by omega, rfl, HC.out⟩
        case round =>
          obtain ⟨q, hq, rfl, hc⟩ := hrel
          have HD := Lib.hid hc
          clear hc
          obtain ⟨z, hz⟩ : ∃ z, (q : Int) - 1 = z := ⟨_, rfl⟩
          rw [hz]
          have HZ := Lib.hid hz
          have hz1 : -1 ≤ z := by omega
          have hz2 : z ≤ 1000 := by omega
          by_cases hqn : q < nn + 2
          · have hmx : z ≤ max s 1 := by rw [HN.out]; omega
            obtain ⟨m, hm⟩ : ∃ m, (L.filter (inS (nn : Int) z)).length = m := ⟨_, rfl⟩
            have HL1 := Lib.hid (load_any HD.out.rl.rg z (wf_small (by omega) (by omega)) m hm)
            have HL2 := Lib.hid (rload_any HD.out.ro (by omega) HD.out.rl.rg.key hn1 (by omega) z m hm)
            have hmm : ((m : Int) != (m : Int)) = false := by simp
            clear hm hz
            go_wp2_with fail
            refine HL1.out.mono ?_
            rintro _ wz ⟨rfl, hw0⟩
            replace hw0 := hw0.symm
            subst hw0
            go_wp2_with fail
            refine HL2.out.mono ?_
            rintro _ w8 ⟨rfl, hb⟩
            have H8 := Lib.hid (HD.out.below hb)
            clear hb
            go_wp2
            go_roundw
            case rel => exact ⟨q + 1, by omega, by have := HZ.out; congr 1; omega, H8.out⟩
            case measure => have := HZ.out; simp [intOf]; omega
          · have hmx : ¬ z ≤ max s 1 := by rw [HN.out]; omega
            have hb0 := HD.out.rl.rg.ll
            obtain ⟨P, hP⟩ : ∃ P, keysL (L.filter (pre px)) = P := ⟨_, rfl⟩
            obtain ⟨m, hm⟩ : ∃ m, P.length = m := ⟨_, rfl⟩
            have hm160 : m ≤ 160 := by have h3 := List.length_filter_le (pre px) L; rw [← hm, ← hP, keysL_len]; omega
            have HP := Lib.hid hP
            have HM := Lib.hid hm
            clear hz hP hm hb0
            go_wp2_with fail
            refine (under_rq HD.out.rl (by omega) px (by omega) P HP.out m HM.out).mono ?_
            rintro _ w8 ⟨X, capX, gX, rfl, h3, hb, _⟩
            have HX8 := Lib.hid h3.sl
            have H8 := Lib.hid (HD.out.below hb)
            clear h3 hb
            go_wp2_with fail
            refine (runder_any H8.out.ro (by omega) px P HP.out m HM.out).mono ?_
            rintro _ w9 ⟨V, rfl, h3, hb⟩
            obtain ⟨Y, capY, gY, eV, h4, _⟩ := sl_row2 (show w9.ownsRow w8.heap.size 9 1 V P.length (svs P) from by rw [HM.out]; exact h3)
            rw [HM.out] at eV
            subst eV
            have HT := Lib.hid (texts_same (HX8.out.below hb) h4 (by rw [HM.out]; omega))
            rw [HM.out] at HT
            have H9 := Lib.hid (H8.out.below hb)
            clear h3 h4 hb
            go_wp2_with fail
            refine HT.out.mono ?_
            rintro _ wa ⟨rfl, hb⟩
            have Ha := Lib.hid (H9.out.below hb)
            clear hb HT
            go_wp2_with fail
            refine (under_rq Ha.out.rl (by omega) ⟨#[]⟩ (by decide) (keysL L) (by rw [all_pre]) L.length (keysL_len L)).mono ?_
            rintro _ wb ⟨X2, capX2, gX2, rfl, h3, hb, _⟩
            have HXb := Lib.hid h3.sl
            have Hb := Lib.hid (Ha.out.below hb)
            clear h3 hb
            go_wp2_with fail
            refine (runder_any Hb.out.ro (by omega) ⟨#[]⟩ (keysL L) (by rw [all_pre]) L.length (keysL_len L)).mono ?_
            rintro _ wc ⟨V2, rfl, h3, hb⟩
            obtain ⟨Y2, capY2, gY2, eV, h4, _⟩ := sl_row2 (show wc.ownsRow wb.heap.size 9 1 V2 (keysL L).length (svs (keysL L)) from by rw [keysL_len]; exact h3)
            rw [keysL_len] at eV
            subst eV
            have HT := Lib.hid (texts_same (HXb.out.below hb) h4 (by rw [keysL_len]; have := HLL.out; omega))
            rw [keysL_len] at HT
            have Hc := Lib.hid (Hb.out.below hb)
            clear h3 h4 hb
            go_wp2_with fail
            refine HT.out.mono ?_
            rintro _ wd ⟨rfl, hb⟩
            have Hd := Lib.hid (Hc.out.below hb)
            clear hb HT
            go_wp2
            go_ret
            exact ⟨rfl, HB1.out.trans (Hd.out.rl.bel.mono HB1.out.size)⟩
theorem regPlays_walk (w : World) (a0 : Int) (w0 : (Lit.int .i64 a0).wf = true) (A1 : Option Addr) (len1 cap1 : Nat) (S1 : Sh.ok w (Sh.slice 3 (Sh.agg 3 [(0, 1, (Sh.int .i64)), (1, 1, Sh.str), (2, 1, (Sh.int .i64))])) [.slice A1 len1 cap1]) (a2 : ByteArray) (w2 : a2.size ≤ maxLen) :
    Calls Try.prog 3 #[.int .i64 a0, .slice A1 len1 cap1, .string a2] w fun e w' => e = .returned (.bool true) ∧ Below w.heap.size w w' := by
  obtain ⟨b, off, xs, hl, hm, hA⟩ := acts_of S1
  exact plays_in w a0 (wf_i64 w0).2 A1 len1 cap1 b off xs hl hm hA a2
end Go.Proofs.Ytlfjhbfhnlclpaa
