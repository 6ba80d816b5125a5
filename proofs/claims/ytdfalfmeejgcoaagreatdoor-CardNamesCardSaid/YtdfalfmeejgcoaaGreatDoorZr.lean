/- What the listed variables give the walks: utf8's two tables, the table of powers of ten; and that the program's own start meets the condition. -/
import Derived.Test.YtdfalfmeejgcoaaGreatDoorZq
import Derived.Deep.RegionHeld3
import Derived.Deep.DrawnRows
import Derived.Laws.Concat
import Derived.Test.YtdfalfmeejgcoaaGreatDoorZf
import Derived.Handed
import Derived.HandedShaped
import Derived.Shelf.Vars
import Derived.KernelRfl
import Derived.Test.YtdfalfmeejgcoaaGreatDoorRows
import Derived.Test.YtdfalfmeejgcoaaGreatDoorZi
import Derived.LaidMore
import Derived.PinnedBridge
import Derived.Lay
import Derived.Lib.LaidIn
import Derived.Lib.LaidTab
import Derived.Lib.LaidU8T
import Derived.MakeChecks
import Derived.Stop.Joined
import Derived.Stop.LaidErr
/- CardNames: a card has just one name: without it, or with another one, it is none; with a second day, too. -/
namespace Go.Proofs.YtdfalfmeejgcoaaGreatDoor
open Go.RowKit
open Go.Lib hiding intOf
open Go.Sort Go.Proofs
set_option linter.unusedVariables false
set_option linter.unusedSimpArgs false
set_option maxRecDepth 100000
theorem kclean_any (s : ByteArray) (hs : s.size ≤ 1000000) (w : World) : Calls Tryz.prog 20 #[.string s] w fun e w' => e = .returned (.string (cleanS s).1) ∧ Below w.heap.size w w' := by
  have HC := Lib.hid (rclean_any s hs w)
  obtain ⟨c1, c2, hc⟩ : ∃ a b, cleanS s = (a, b) := ⟨_, _, rfl⟩
  rw [hc] at HC ⊢
  simp only at HC ⊢
  clear hc hs
  go_enter Tryz.func20, Tryz.ntmps20
  go_wp2_with fail
  refine HC.out.mono ?_
  rintro _ w1 ⟨rfl, hb⟩
  have HB := Lib.hid hb
  clear hb
  go_wp2
  go_ret
  exact ⟨rfl, HB.out⟩
abbrev annT : ByteArray := ⟨#[110, 97, 109, 101, 58, 65, 110, 110, 10]⟩
theorem ann_tit : titF (parL annT).1 = ⟨#[65, 110, 110]⟩ := by decide +kernel
set_option maxHeartbeats 2000000 in
theorem kcard0 (w : World) : Calls Tryz.prog 21 #[.int .i64 0] w fun e w' => e = .returned (.string annT) ∧ Below w.heap.size w w' := by
  have hb : bits .and .i64 0 65535 = 0 := by decide
  have ht : (0 : Int).tmod 5 = 0 := by decide
  go_enter Tryz.func21, Tryz.ntmps21
  go_wp2
  go_ret
  exact ⟨rfl, (Below.refl _ _).alloc (Nat.le_refl _) _⟩
theorem fv_tail {w : World} {A : Option Addr} {cap b off : Nat} {f : F3} {rest : List F3} (h : Fv w A cap b off (f :: rest)) : Fv w (some ⟨b, off + 3, none⟩) (cap - 1) b (off + 3) rest := by
  refine ⟨by have := h.1; rw [List.length_cons] at this; omega, fun j g hj => ?_⟩
  obtain ⟨_, h2, h3, h4, h5⟩ := h.2 (j + 1) g (by simpa using hj)
  have e : off + (j + 1) * 3 = off + 3 + j * 3 := by omega
  rw [e] at h3 h4 h5
  exact ⟨rfl, h2, h3, h4, h5⟩
def cut1 (A : Option Addr) (cap : Nat) : Option Addr := if cap = 1 then A else A.map fun p => p.add 3
theorem cut_one_f (A : Option Addr) (n cap : Nat) (hk : 1 ≤ n) (W : World) : (Instr.sliceAt 22 (.slice A n cap) (some (.int .i64 1)) none none).run Tryz.prog W = .ok (.slice (cut1 A cap) (n - 1) (cap - 1)) W := by
  rw [run_sliceAt_slice W 22 _ _ _ _ (by exact Tryz.underlying22), run_slice_l W 22 _ _ _ (by exact Tryz.underlying22) _ _ (by omega) (by omega)]
  have e : Tryz.prog.elem 22 = 36 := by kernel_rfl
  have e2 : (sizeOf 36).run Tryz.prog W = .ok 3 W := by kernel_rfl
  rw [e, e2]
  rfl
theorem fv_cut1 {w : World} {A : Option Addr} {cap b : Nat} {f : F3} {rest : List F3} (h : Fv w A cap b 0 (f :: rest)) : Fv w (cut1 A cap) (cap - 1) b 3 rest := by
  have ht := fv_tail h
  refine ⟨ht.1, fun j g hj => ?_⟩
  obtain ⟨h1, h2, h3, h4, h5⟩ := ht.2 j g hj
  have hl := (List.getElem?_eq_some_iff.1 hj).1
  have hc := h.1
  rw [List.length_cons] at hc
  obtain ⟨ha, _⟩ := h.2 0 f rfl
  refine ⟨?_, h2, h3, h4, h5⟩
  unfold cut1
  rw [if_neg (by omega), ha]
  rfl
theorem fr3_empty (w : World) (B : Nat) (hB : B ≤ w.heap.size) : Fr3 (w.alloc (.cells #[] 36)) B (.slice (some ⟨w.heap.size, 0, none⟩) 0 0) 0 [] :=
  ⟨rfl, .inr ⟨w.heap.size, 0, #[], rfl, hB, heap_alloc_new w _, Nat.le_refl _, Nat.zero_le _, rfl, rfl⟩⟩
set_option maxHeartbeats 16000000 in
theorem cardNames_walk (w : World) (hTD : Tabs w ∧ Day.Tab w.heap.size w) (hM : Mx w) (A0 : Option Addr) (len0 cap0 : Nat) (S0 : Sh.ok w (Sh.slice 3 (Sh.agg 3 [(0, 1, (Sh.int .i64)), (1, 1, (Sh.int .i64)), (2, 1, Sh.str)])) [.slice A0 len0 cap0]) (a1 : ByteArray) (w1 : a1.size ≤ maxLen) :
    Calls Tryz.prog 6 #[.slice A0 len0 cap0, .string a1] w fun e w' => e = .returned (.bool true) ∧ Below w.heap.size w w' := by
  obtain ⟨b, off, L, hL, hF⟩ := fields_open S0
  have HE := Lib.hid (show Env w from ⟨hTD.1, hM, hTD.2⟩)
  have HF := Lib.hid hF
  have HL := Lib.hid hL
  have HF0 := Lib.hid (fun v (h : Env v) => first_any v h)
  have HLI := Lib.hid (fun v (h : Below w.heap.size w v) => light_any (hF.below h) len0 hL)
  clear hTD hM S0 w1 hF hL
  by_cases hbig : lightF L = false ∨ (len0 : Int) > 20 ∨ (a1.size : Int) > 100
  · rcases (show (lightF L = false) ∨ (lightF L = true ∧ (len0 : Int) > 20) ∨ (lightF L = true ∧ ¬ (len0 : Int) > 20 ∧ (a1.size : Int) > 100) by
      cases hh : lightF L with
      | false => exact .inl rfl
      | true =>
        rcases hbig with h | h | h
        · rw [hh] at h; cases h
        · exact .inr (.inl ⟨rfl, h⟩)
        · by_cases h2 : (len0 : Int) > 20
          · exact .inr (.inl ⟨rfl, h2⟩)
          · exact .inr (.inr ⟨rfl, h2, h⟩)) with h | ⟨h, h2⟩ | ⟨h, h2, h3⟩
    all_goals (
      rw [h] at HLI
      clear hbig h
      go_enter Tryz.func6, Tryz.ntmps6
      go_wp2_with fail
      refine (HF0.out _ HE.out).mono ?_
      rintro _ v1 ⟨rfl, hb⟩
      have HB1 := Lib.hid hb
      clear hb
      go_wp2_with (go_at_call 8; (with_reducible refine (HLI.out _ HB1.out).mono ?_); rintro _ v2 ⟨rfl, hb⟩; have HB2 := Lib.hid (HB1.out.trans (hb.mono HB1.out.size)); clear hb)
      refine (HF0.out _ (HE.out.on HB2.out)).mono ?_
      rintro _ v3 ⟨rfl, hb⟩
      have HB3 := Lib.hid (HB2.out.trans (hb.mono HB2.out.size))
      clear hb
      go_wp2
      go_ret
      exact ⟨rfl, HB3.out⟩)
  · have hli : lightF L = true := by
      cases h : lightF L with
      | true => rfl
      | false => exact absurd (.inl h) hbig
    have h20 : ¬ (len0 : Int) > 20 := fun h => hbig (.inr (.inl h))
    have h100 : ¬ (a1.size : Int) > 100 := fun h => hbig (.inr (.inr h))
    obtain ⟨hl30, hl200⟩ := light_spec hli
    rw [hli] at HLI
    have HV := Lib.hid (show ∀ f ∈ L, f.2.2.size ≤ 1000000 from fun f hf => by have := hl200 f hf; omega)
    have HLE := Lib.hid (show L.length ≤ 1000 from by omega)
    have hs100 : a1.size ≤ 100 := by omega
    clear hl30 hl200 hbig
    obtain ⟨a, ce, hc⟩ : ∃ a ce, canL L = (a, ce) := ⟨_, _, rfl⟩
    have hcc := canL_spec L
    have hcd := @card_of L
    rw [hc] at hcc hcd
    simp only at hcc hcd
    obtain ⟨ma, hma⟩ : ∃ m, a.length = m := ⟨_, rfl⟩
    have HC := Lib.hid (fun v (h : Below w.heap.size w v) => ccanon_on len0 HL.out a ce hc ma hma (HF.out.below h) HLE.out HV.out (HE.out.on h))
    clear hc
    by_cases hce : ce = 0
    · subst hce
      have hcrd := hcd rfl
      obtain ⟨v0, rest, rfl, hcn, hc0⟩ := card_head hcrd
      have hnum := (card_nums hcrd).1
      have HCR := Lib.hid hcrd
      have HC0 := Lib.hid hc0
      have hm0 : ((ma : Int) == 0) = false := by rw [List.length_cons] at hma; simp; omega
      have HMA := Lib.hid hma
      have hmp : 1 ≤ ma := by rw [← hma, List.length_cons]; omega
      clear hcc hcd hcrd hcn hc0 hma
      by_cases h11 : (ma : Int) ≥ 11
      · have hgt : (ma : Int) > 0 := by omega
        go_enter Tryz.func6, Tryz.ntmps6
        go_wp2_with fail
        refine (HF0.out _ HE.out).mono ?_
        rintro _ v1 ⟨rfl, hb⟩
        have HB1 := Lib.hid hb
        clear hb
        go_wp2_with (go_at_call 8; (with_reducible refine (HLI.out _ HB1.out).mono ?_); rintro _ v2 ⟨rfl, hb⟩; have HB2 := Lib.hid (HB1.out.trans (hb.mono HB1.out.size)); clear hb)
        refine (HC.out _ HB2.out).mono ?_
        rintro _ v3 ⟨Y1, Y2, Y3, rfl, hfy, hb⟩
        have HB3 := Lib.hid (HB2.out.trans (hb.mono HB2.out.size))
        obtain ⟨rfl, _, y0, y1, y2⟩ := hfy.2 0 (1, 0, v0) rfl
        simp only [Nat.zero_mul, Nat.zero_add] at y0 y1 y2
        clear hb hfy
        go_wp2
        go_ret
        exact ⟨rfl, HB3.out⟩
      · go_enter Tryz.func6, Tryz.ntmps6
        go_wp2_with fail
        refine (HF0.out _ HE.out).mono ?_
        rintro _ v1 ⟨rfl, hb⟩
        have HB1 := Lib.hid hb
        clear hb
        go_wp2_with (go_at_call 8; (with_reducible refine (HLI.out _ HB1.out).mono ?_); rintro _ v2 ⟨rfl, hb⟩; have HB2 := Lib.hid (HB1.out.trans (hb.mono HB1.out.size)); clear hb)
        refine (HC.out _ HB2.out).mono ?_
        rintro _ v3 ⟨Y1, Y2, Y3, rfl, hfy, hb⟩
        have HB3 := Lib.hid (HB2.out.trans (hb.mono HB2.out.size))
        have HFY := Lib.hid hfy
        obtain ⟨rfl, hyl, y0, y1, y2⟩ := hfy.2 0 (1, 0, v0) rfl
        simp only [Nat.zero_mul, Nat.zero_add] at y0 y1 y2
        clear hb hfy
        obtain ⟨a, ha⟩ : ∃ a, (1, 0, v0) :: rest = a := ⟨_, rfl⟩
        have HAA := Lib.hid ha
        have HLA := Lib.hid (show a.length = ma from ha ▸ HMA.out)
        have HFA := Lib.hid (show Fv v3 (some ⟨Y3, 0, none⟩) Y2 Y3 0 a from ha ▸ HFY.out)
        have hft := fv_cut1 HFY.out
        have hcut := fun W => cut_one_f (some ⟨Y3, 0, none⟩) ma Y2 hmp W
        obtain ⟨TA, hTA⟩ : ∃ T, cut1 (some ⟨Y3, 0, none⟩) Y2 = T := ⟨_, rfl⟩
        rw [hTA] at hft
        simp only [hTA] at hcut
        have HFT := Lib.hid hft
        clear hft hTA
        obtain ⟨B, hB⟩ : ∃ B, v3.heap.size = B := ⟨_, rfl⟩
        have HBB := Lib.hid hB
        have hsz : (a1 ++ (⟨#[120]⟩ : ByteArray)).size ≤ 101 := by rw [ByteArray.size_append]; show a1.size + 1 ≤ 101; omega
        have HSZ := Lib.hid hsz
        have hcat : ((a1 ++ (⟨#[120]⟩ : ByteArray)).size : Int) ≤ 1000 := by omega
        obtain ⟨W4, hW4⟩ : ∃ W4, v3.alloc (.cells #[] 36) = W4 := ⟨_, rfl⟩
        have HR4 := Lib.hid (show Fr3 W4 B (.slice (some ⟨v3.heap.size, 0, none⟩) 0 0) 0 [] from hW4 ▸ fr3_empty v3 B (Nat.le_of_eq hB.symm))
        have HB4 := Lib.hid (show Below B v3 W4 from hB ▸ hW4 ▸ (Below.refl _ v3).alloc (Nat.le_refl _) _)
        clear ha hB hsz
        go_wp2_with (first
          | (at_builtin
             (try rw [hW6])
             refine fr3_push _ rfl (.tmp 71) (.tmp 75) 22 rfl Tryz.underlying22 info36 B _ ma a rfl HR6.out w5.heap.size (1, 0, a1 ++ ⟨#[120]⟩) rfl HY6.out (by omega) (by have := HB6.out.size; have := HBB.out; omega) ?_
             intro V7 w7 hown hgr
             have HR7 := Lib.hid hown
             have HB7 := Lib.hid (show Below B v3 w7 from HB6.out.grown hgr (by have := HB6.out.size; have := HBB.out; omega) (fun k e => (HR6.out.lt k e).1))
             clear hown hgr hW6)
          | (at_builtin
             (try rw [hW4])
             refine fr3_app _ rfl (.tmp 69) (.tmp 70) 22 rfl Tryz.underlying22 info36 B _ 0 [] rfl HR4.out ⟨Y3, 0, none⟩ ma _ a HLA.out rfl (by have := fv_cells (HFA.out.below (HBB.out ▸ HB4.out)) 0; rw [Nat.zero_mul, List.drop_zero] at this; exact this) (by omega) (by have := HB4.out.size; have := HBB.out; omega) ?_
             intro V5 w5 hown hgr
             have HR5 := Lib.hid (show Fr3 w5 B V5 ma a from by have := hown; rw [Nat.zero_add, List.nil_append] at this; exact this)
             have HB5 := Lib.hid (show Below B v3 w5 from HB4.out.grown hgr (by have := HB4.out.size; have := HBB.out; omega) (fun k e => (HR4.out.lt k e).1))
             clear hown hgr hW4
             obtain ⟨W6, hW6⟩ : ∃ W6, w5.alloc (.cells #[.int .i64 1, .int .i64 0, .string (a1 ++ ⟨#[120]⟩)] 36) = W6 := ⟨_, rfl⟩
             have HY6 := Lib.hid (show Blk W6 w5.heap.size 36 #[.int .i64 1, .int .i64 0, .string (a1 ++ ⟨#[120]⟩)] from hW6 ▸ Blk.new w5 36 _)
             have HR6 := Lib.hid (show Fr3 W6 B V5 ma a from hW6 ▸ World.ownsRow.alloc HR5.out _)
             have HB6 := Lib.hid (show Below B v3 W6 from hW6 ▸ HB5.out.alloc (by have := HB5.out.size; have := HBB.out; omega) _))
          | fail)
        obtain ⟨sx, hsx⟩ : ∃ sx : ByteArray, a1 ++ ⟨#[120]⟩ = sx := ⟨_, rfl⟩
        have HSX := Lib.hid hsx
        rw [hsx] at HR7 HSZ
        have hl7 : (a ++ [((1, 0, sx) : F3)]).length = ma + 1 := by rw [List.length_append, HLA.out]; rfl
        obtain ⟨A7, c7, g7, rfl, hf7⟩ := fr3_fv HR7.out hl7
        have HF7 := Lib.hid hf7
        have HL7 := Lib.hid hl7
        clear hf7 hl7 hcat
        have HEV := Lib.hid (fun v (h : Below B v3 v) => (show Env v from HE.out.on (HB3.out.trans (h.mono (by have h1 := HB3.out.size; have := HBB.out; omega)))))
        have hvr : ∀ f ∈ a, f.2.2.size ≤ 1000000 := fun f hf => by
          rw [← HAA.out] at hf
          have := may_size (HCR.out.cnn f hf).1
          omega
        have HVR := Lib.hid hvr
        have HC1 := Lib.hid (fun v (h : Below B v3 v) => ccanon_on (ma - 1) (by have := HMA.out; rw [List.length_cons] at this; omega) [] 1 (card_tail HCR.out HC0.out) 0 rfl (HFT.out.below (HBB.out ▸ h)) (by have := HMA.out; rw [List.length_cons] at this; omega) (fun f hf => HVR.out f (HAA.out ▸ List.mem_cons_of_mem _ hf)) (HEV.out v h))
        obtain ⟨rv, re, hcm, hre⟩ := card_more HCR.out (by have := HMA.out; omega) sx
        rw [HAA.out] at hcm
        obtain ⟨mr, hmr⟩ : ∃ m, rv.length = m := ⟨_, rfl⟩
        have HC2 := Lib.hid (fun v (h : Below w7.heap.size w7 v) => ccanon_on (ma + 1) HL7.out rv re hcm mr hmr (HF7.out.below h) (by have := HL7.out; omega) (fun f hf => by
          rcases List.mem_append.1 hf with hf | hf
          · exact HVR.out f hf
          · rw [List.mem_singleton.1 hf]; have := HSZ.out; show sx.size ≤ _; omega) (HEV.out v (HB7.out.trans (h.mono (by have h1 := HB7.out.size; have := HBB.out; omega)))))
        have HD := Lib.hid (show canL (a ++ [(5, 0, d1S), (5, 0, d2S)]) = ([], 1) from by have := card_days HCR.out (by have := HMA.out; omega); rwa [HAA.out] at this)
        have HKC := Lib.hid (fun v => kclean_any sx (by have := HSZ.out; omega) v)
        obtain ⟨cx, hcx⟩ : ∃ c, (cleanS sx).1 = c := ⟨_, rfl⟩
        rw [hcx] at HKC hre
        have HRE := Lib.hid hre
        clear hvr hcm hre hcx hmr
        refine (HC1.out _ HB7.out).mono ?_
        rintro _ v8 ⟨Z1, Z2, Z3, rfl, _, hb⟩
        have HK8 := Lib.hid hb
        have HB8 := Lib.hid (HB7.out.trans (hb.mono (by have h1 := HB7.out.size; have := HBB.out; omega)))
        clear hb
        go_wp2_with fail
        refine (HC2.out _ HK8.out).mono ?_
        rintro _ v9 ⟨U1, U2, U3, rfl, _, hb⟩
        have HB9 := Lib.hid (HB8.out.trans (hb.mono (by have h1 := HB8.out.size; have := HBB.out; omega)))
        clear hb
        obtain ⟨W10, hW10⟩ : ∃ W, v9.alloc (.cells #[] 36) = W := ⟨_, rfl⟩
        have HR10 := Lib.hid (show Fr3 W10 B (.slice (some ⟨v9.heap.size, 0, none⟩) 0 0) 0 [] from hW10 ▸ fr3_empty v9 B (by have h1 := HB9.out.size; have := HBB.out; omega))
        have HB10 := Lib.hid (show Below B v3 W10 from hW10 ▸ HB9.out.alloc (by have h1 := HB9.out.size; have := HBB.out; omega) _)
        go_wp2_with (first
          | (at_builtin
             (try rw [hW12])
             refine fr3_app _ rfl (.tmp 90) (.tmp 93) 22 rfl Tryz.underlying22 info36 B _ ma a rfl HR12.out ⟨w11.heap.size, 0, none⟩ 2 _ [(5, 0, d1S), (5, 0, d2S)] rfl rfl HY12.out (by omega) (by have := HB12.out.size; have := HBB.out; omega) ?_
             intro V13 w13 hown hgr
             have HR13 := Lib.hid hown
             have HB13 := Lib.hid (show Below B v3 w13 from HB12.out.grown hgr (by have := HB12.out.size; have := HBB.out; omega) (fun k e => (HR12.out.lt k e).1))
             clear hown hgr hW12)
          | (at_builtin
             (try rw [hW10])
             refine fr3_app _ rfl (.tmp 88) (.tmp 89) 22 rfl Tryz.underlying22 info36 B _ 0 [] rfl HR10.out ⟨Y3, 0, none⟩ ma _ a HLA.out rfl (by have := fv_cells (HFA.out.below (HBB.out ▸ HB10.out)) 0; rw [Nat.zero_mul, List.drop_zero] at this; exact this) (by omega) (by have := HB10.out.size; have := HBB.out; omega) ?_
             intro V11 w11 hown hgr
             have HR11 := Lib.hid (show Fr3 w11 B V11 ma a from by have := hown; rw [Nat.zero_add, List.nil_append] at this; exact this)
             have HB11 := Lib.hid (show Below B v3 w11 from HB10.out.grown hgr (by have := HB10.out.size; have := HBB.out; omega) (fun k e => (HR10.out.lt k e).1))
             clear hown hgr hW10
             obtain ⟨W12, hW12⟩ : ∃ W, w11.alloc (.cells #[.int .i64 5, .int .i64 0, .string d1S, .int .i64 5, .int .i64 0, .string d2S] 36) = W := ⟨_, rfl⟩
             have HY12 := Lib.hid (show ∀ j u, (encL [(5, 0, d1S), (5, 0, d2S)])[j]? = some u → W12.cell? ((⟨w11.heap.size, 0, none⟩ : Addr).add j) = some u from hW12 ▸ World.news_of_block (cs := #[.int .i64 5, .int .i64 0, .string d1S, .int .i64 5, .int .i64 0, .string d2S]) (t := 36) (fr := (0, 0)) (Blk.new w11 36 _))
             have HR12 := Lib.hid (show Fr3 W12 B V11 ma a from hW12 ▸ World.ownsRow.alloc HR11.out _)
             have HB12 := Lib.hid (show Below B v3 W12 from hW12 ▸ HB11.out.alloc (by have := HB11.out.size; have := HBB.out; omega) _))
          | fail)
        have hl13 : (a ++ [((5, 0, d1S) : F3), (5, 0, d2S)]).length = ma + 2 := by rw [List.length_append, HLA.out]; rfl
        obtain ⟨A13, c13, g13, rfl, hf13⟩ := fr3_fv HR13.out hl13
        have HC3 := Lib.hid (ccanon_on (ma + 2) hl13 [] 1 HD.out 0 rfl hf13 (by omega) (fun f hf => by
          rcases List.mem_append.1 hf with hf | hf
          · exact HVR.out f hf
          · simp only [List.mem_cons, List.not_mem_nil, or_false] at hf
            rcases hf with rfl | rfl <;> (show (10 : Nat) ≤ 1000000; omega)) (HEV.out _ HB13.out))
        clear hl13 hf13
        go_wp2_with fail
        refine HC3.out.mono ?_
        rintro _ v14 ⟨Q1, Q2, Q3, rfl, _, hb⟩
        have HB14 := Lib.hid (HB13.out.trans (hb.mono (by have h1 := HB13.out.size; have := HBB.out; omega)))
        clear hb
        have HFA14 := Lib.hid (HFA.out.below (HBB.out ▸ HB14.out))
        have hS := (HFA14.out.2 0 (1, 0, v0) (by rw [← HAA.out]; rfl)).2.2.2.2
        simp only [Nat.zero_mul, Nat.zero_add] at hS
        have HSB := Lib.hid (fun W (h : Below v14.heap.size v14 W) => (show W.cell? ⟨Y3, 2, none⟩ = some (.string v0) from (h.cell (p := ⟨Y3, 2, none⟩) (HFA14.out.2 0 (1, 0, v0) (by rw [← HAA.out]; rfl)).2.1).trans hS))
        have HKD := Lib.hid (fun v => kcard0 v)
        have HTT := Lib.hid (fun v (h : Below B v3 v) => title_on annT (by decide) _ ann_tit v (HEV.out v h))
        have HB14' := Lib.hid (show v3.heap.size ≤ v14.heap.size from by have h1 := HB14.out.size; omega)
        obtain ⟨q, hq⟩ : ∃ q, (v0.toList == cx.toList) = q := ⟨_, rfl⟩
        have hre : (re != 0) = !q := by rw [← hq]; exact HRE.out
        have kadd : ∀ W, (Op.stringOp .add a1 ⟨#[120]⟩).run Tryz.prog W = .ok (.string sx) W := fun W => by rw [← HSX.out]; exact run_string_add_sum W _ _ (by show a1.size + 1 ≤ _; omega)
        clear HRE y0 y1 y2 h11
        have hS0 : (v14.drewN 1).cell? ⟨Y3, 2, none⟩ = some (.string v0) := hS
        clear hS
        go_wp2_with fail
        cases q
        all_goals (
          simp only [Bool.not_false, Bool.not_true] at hre
          go_region_held3 (fun W => W.cell? ⟨Y3, 2, none⟩ = some (.string v0)) (first | exact HSB.out _ ⟨rfl, rfl, rfl, Nat.le_refl _, fun _ _ => rfl⟩ | exact HSB.out _ HX17.out | exact HSB.out _ HX16.out | exact HSB.out _ HX15.out) (first
            | (go_at_call 18; (with_reducible refine (HTT.out _ HB16.out).mono ?_); rintro _ w17 ⟨rfl, hb⟩; have HX17 := Lib.hid (HX16.out.trans (hb.mono HX16.out.size)); clear hb)
            | (go_at_call 21; (with_reducible refine (HKD.out _).mono ?_); rintro _ w16 ⟨rfl, hb⟩; have HX16 := Lib.hid (HX15.out.trans (hb.mono HX15.out.size)); have HB16 := Lib.hid (show Below B v3 w16 from HB14.out.trans (HX16.out.mono (by have h1 := HB14.out.size; have := HBB.out; omega))); clear hb)
            | (go_at_call 20; (with_reducible refine (HKC.out _).mono ?_); rintro _ w15 ⟨rfl, hb⟩; have HX15 := Lib.hid (show Below v14.heap.size v14 w15 from ⟨hb.os, hb.tape, hb.output, hb.size, hb.block⟩); clear hb)
            | fail)
          all_goals (
            go_wp2
            go_ret
            exact ⟨rfl, HB3.out.trans (HB14.out.mono (by have h1 := HB3.out.size; have := HBB.out; omega) |>.trans (HX17.out.mono (by have h1 := HB3.out.size; have h2 := HB14'.out; omega)))⟩))
    · have hne : (ce != 0) = true := by simpa using hce
      clear hcc hcd
      go_enter Tryz.func6, Tryz.ntmps6
      go_wp2_with fail
      refine (HF0.out _ HE.out).mono ?_
      rintro _ v1 ⟨rfl, hb⟩
      have HB1 := Lib.hid hb
      clear hb
      go_wp2_with (go_at_call 8; (with_reducible refine (HLI.out _ HB1.out).mono ?_); rintro _ v2 ⟨rfl, hb⟩; have HB2 := Lib.hid (HB1.out.trans (hb.mono HB1.out.size)); clear hb)
      refine (HC.out _ HB2.out).mono ?_
      rintro _ v3 ⟨Y1, Y2, Y3, rfl, hfy, hb⟩
      have HB3 := Lib.hid (HB2.out.trans (hb.mono HB2.out.size))
      clear hb hfy
      go_wp2
      go_ret
      exact ⟨rfl, HB3.out⟩
end Go.Proofs.YtdfalfmeejgcoaaGreatDoor
/- A law's row over listed variables that reads one of the library's besides: the world's shape is handed on. -/
namespace Go.Proofs.YtdfalfmeejgcoaaGreatDoor
open Go.ChangeShapes Go.WideShapes Go.RowKit
variable {H : Type} {enc : TypeId × Value → H}
theorem handed_and_shaped {a : Assume} {C : Checked} {os : Os} {f : FuncId} {fn : Func} {s : ChangeSpec} {conds : List PathCond} {apart fresh handsOn again : Bool} {X : World → Array Value → Prop}
    (hX : ∀ (w w' : World) (args : Array Value), w.heap = w'.heap → X w args → X w' args)
    (own : ownKnob C.prog.godebug = none) (started : os.Started) (noInit : C.prog.inits.idxOf? f = none) (hfn : C.prog.funcs[f]? = some fn)
    (witness : ∃ (w : World) (tape : Tape) (i : Input), w.os = os ∧ (w.forCall tape i).Shaped C.prog ∧ i.vars = [] ∧ Input.okWide C.prog (w.forCall tape i) .any w.heap.size f i ∧
      ((s.pre enc C.prog fn conds apart (w.forCall tape i).memory i.args ∧ X (w.forCall tape i).memory i.args) ∧ sizedMet enc C.prog fn (OpenSpec.ofChange s) apart (w.forCall tape i).memory i.args) ∧ a.holds C.prog (lone (Frame.enter C.prog f i.args .normal) [] (w.forCall tape i)))
    (contract : ∀ (W : World) (base : Nat) (args : Array Value) (ds gs : List (DataW H)) (before : List MemPlace),
      (∀ (j : Nat) t v, fn.params[j]? = some t → args[j]? = some v → Value.okWide C.prog W .any base t v) →
      DataW.Whole enc C.prog fn.params.toList s.vars apart W args.toList ds gs before →
      X W args → W.ShapedOpen C.prog →
      Calls C.prog f args W fun e W' => ∃ v, e = .returned v ∧ s.post enc C.prog fn apart fresh handsOn again W args v W') :
    ReturnsInHanded a C os f .any (fun w args => (s.pre enc C.prog fn conds apart w args ∧ X w args) ∧ sizedMet enc C.prog fn (OpenSpec.ofChange s) apart w args) (s.post enc C.prog fn apart fresh handsOn again) := by
  refine returnsInHanded_of_calls own started noInit witness ?_
  intro w tape i _ hsh _ hok hpre _
  obtain ⟨_, _, _, fn', hfn', _, _, _, _, hval⟩ := hok
  have e : fn' = fn := Option.some.inj (hfn'.symm.trans hfn)
  subst e
  obtain ⟨⟨⟨ds, gs, before, hw, _⟩, hx⟩, _⟩ := hpre
  have hw' := DataW.Whole.of_heap (w' := w.forCall tape i) (by rfl) hw
  refine (contract (w.forCall tape i) w.heap.size i.args ds gs before hval hw' (hX _ _ _ (by rfl) hx) hsh).mono fun e W' ⟨v, he, hp⟩ => ?_
  subst he
  exact ChangeSpec.post_blind hp
set_option maxRecDepth 100000 in
theorem mx_of {W : World} (h : W.ShapedOpen Tryz.prog) : Mx W :=
  cell_of_shapedOpen_int h (g := 0) (t := 3) (zero := #[.int .i64 0]) (of_decide_eq_true (by kernel_rfl)) (by kernel_rfl) rfl (by kernel_rfl) (by kernel_rfl) Tryz.underlying3
end Go.Proofs.YtdfalfmeejgcoaaGreatDoor
namespace Go.Proofs.YtdfalfmeejgcoaaGreatDoor
open Go.ChangeShapes Go.WideShapes Go.RowKit
abbrev laidL : List (String × DataW Unit) := [("math/bits.deBruijn32tab", Rows.laid_math_bits_deBruijn32tab), ("math/bits.deBruijn64tab", Rows.laid_math_bits_deBruijn64tab), ("internal/strconv.uint64pow10", Rows.laid_internal_strconv_uint64pow10), ("unicode/utf8.acceptRanges", Rows.laid_unicode_utf8_acceptRanges), ("unicode/utf8.first", Rows.laid_unicode_utf8_first)]
set_option maxRecDepth 100000 in
theorem door_met (os : Os) (args : Array Value) : laidMetH Tryz.prog laidL ((World.laidAll Tryz.prog os laidL).forCall (fun _ _ => 0) ⟨#[], args, []⟩).memory := by
  rw [MakeChecks.laidMetH_plain _ _ _ (by kernel_rfl)]; exact laidMet_laidAll _ (by kernel_rfl) (by kernel_rfl)
theorem acc_eq : (Rows.laid_unicode_utf8_acceptRanges : DataW Unit) = Lib.acceptData := by kernel_rfl
theorem fst_eq : Rows.laid_unicode_utf8_first = Lib.firstData := Pinned.utf8First_eq
theorem pow_eq : (Rows.laid_internal_strconv_uint64pow10 : DataW Unit) = Lib.tabData .u64 Lib.pow10Tab := by kernel_rfl
set_option maxRecDepth 100000 in
theorem facts {W : World} (h : laidMetH Tryz.prog laidL W) : Tabs W ∧ Day.Tab W.heap.size W := by
  rw [MakeChecks.laidMetH_plain _ _ _ (by kernel_rfl)] at h
  have h1 : laidMet Tryz.prog [("internal/strconv.uint64pow10", Lib.tabData .u64 Lib.pow10Tab), ("unicode/utf8.acceptRanges", Lib.acceptData), ("unicode/utf8.first", Lib.firstData)] W := by rw [← acc_eq, ← fst_eq, ← pow_eq]; exact h.tail.tail
  have h2 : laidMet Tryz.prog [("unicode/utf8.acceptRanges", Lib.acceptData), ("unicode/utf8.first", Lib.firstData)] W := h1.tail
  exact ⟨utf8Tabs_of_readsT (U8Types.of196 Tryz.lays196) ⟨by kernel_rfl, by kernel_rfl, by kernel_rfl, by kernel_rfl, by kernel_rfl, by kernel_rfl, by kernel_rfl⟩ (Lib.laidMet.reads h2 (.tail _ (.head _))) (Lib.laidMet.reads h2 (.head _)),
    Lib.tabBelow_of_tabIs (Lib.tabIs_of_head (g := 3) (t := 147) (e := 94) (n := 20) (by kernel_rfl) (by kernel_rfl) Tryz.underlying147 Tryz.underlying94 (by kernel_rfl) (by kernel_rfl) h1)⟩
end Go.Proofs.YtdfalfmeejgcoaaGreatDoor
