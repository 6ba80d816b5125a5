/- merge's laws: MergeTurns. -/
import Derived.Test.YtlcchkpjcekinaaGreatDoorZba
/- merge: Three. -/
namespace Go.Proofs.YtlcchkpjcekinaaGreatDoor
open Go.RowKit
open Go.Lib hiding intOf
open Go.Sort Go.Proofs
set_option linter.unusedVariables false
set_option linter.unusedSimpArgs false
set_option maxRecDepth 100000
abbrev kinds3 : List Int := [1, 2, 5]
def thr1 (W X Y : List F3) (s : List F3 × Nat) (k : Int) : List F3 × Nat :=
  let r := oneF (onlyF k W) (onlyF k X) (onlyF k Y)
  (if r.1 = zF then s.1 else s.1 ++ [r.1], if r.2 then s.2 + 1 else s.2)
def thrL (W X Y : List F3) (q : Nat) : List F3 × Nat := (kinds3.take q).foldl (thr1 W X Y) (manyL W X Y, 0)
def threeL (W X Y : List F3) : ByteArray × Int × Int :=
  if (txtL (thrL W X Y 3).1).2 = 0 then ((txtL (thrL W X Y 3).1).1, ((thrL W X Y 3).2 : Int), 0) else (⟨#[]⟩, 0, (txtL (thrL W X Y 3).1).2)
def threeS (o a b : ByteArray) : ByteArray × Int × Int :=
  if isC o && isC a && isC b then threeL (parL o).1 (parL a).1 (parL b).1 else (⟨#[]⟩, 0, 1)
theorem thrL_step {W X Y : List F3} {q : Nat} {k : Int} (h : kinds3[q]? = some k) : thrL W X Y (q + 1) = thr1 W X Y (thrL W X Y q) k := by
  unfold thrL
  rw [List.take_add_one, h, List.foldl_append]
  rfl
theorem onlyF_mem (k : Int) : ∀ L : List F3, onlyF k L = zF ∨ (onlyF k L ∈ L ∧ (onlyF k L).1 = k)
  | [] => .inl rfl
  | f :: L => by
    unfold onlyF
    split
    · exact .inr ⟨List.mem_cons_self, by assumption⟩
    · exact (onlyF_mem k L).imp id fun h => ⟨List.mem_cons_of_mem _ h.1, h.2⟩
theorem oneF_mem (base a b : F3) : (oneF base a b).1 = a ∨ (oneF base a b).1 = b := by
  unfold oneF; split
  · exact .inr rfl
  · exact .inl rfl
theorem thr1_mem {W X Y : List F3} {s : List F3 × Nat} {k : Int} : ∀ f ∈ (thr1 W X Y s k).1, f ∈ s.1 ∨ f ∈ X ∨ f ∈ Y := fun f hf => by
  unfold thr1 at hf
  simp only at hf
  split at hf
  · exact .inl hf
  · rename_i hz
    rcases List.mem_append.1 hf with h | h
    · exact .inl h
    · rw [List.mem_singleton] at h
      rcases oneF_mem (onlyF k W) (onlyF k X) (onlyF k Y) with e | e
      · rcases onlyF_mem k X with e2 | e2
        · exact absurd (e.trans e2) hz
        · exact .inr (.inl (by rw [h, e]; exact e2.1))
      · rcases onlyF_mem k Y with e2 | e2
        · exact absurd (e.trans e2) hz
        · exact .inr (.inr (by rw [h, e]; exact e2.1))
theorem manyL_mem {W X Y : List F3} : ∀ f ∈ manyL W X Y, f ∈ X ∨ f ∈ Y := fun f hf => by
  unfold manyL at hf
  exact (List.mem_append.1 hf).imp (fun h => (List.mem_filter.1 h).1) (fun h => (List.mem_filter.1 h).1)
theorem thrL_mem {W X Y : List F3} : ∀ (q : Nat), ∀ f ∈ (thrL W X Y q).1, f ∈ X ∨ f ∈ Y
  | 0, f, hf => manyL_mem f hf
  | q + 1, f, hf => by
    cases hk : kinds3[q]? with
    | none =>
      have h1 : 3 ≤ q := by simpa using List.getElem?_eq_none_iff.1 hk
      have : thrL W X Y (q + 1) = thrL W X Y q := by unfold thrL; rw [List.take_of_length_le (by simp; omega), List.take_of_length_le (by simp; omega)]
      rw [this] at hf
      exact thrL_mem q f hf
    | some k =>
      rw [thrL_step hk] at hf
      rcases thr1_mem f hf with h | h
      · exact thrL_mem q f h
      · exact h
theorem thr1_len {W X Y : List F3} {s : List F3 × Nat} {k : Int} : (thr1 W X Y s k).1.length ≤ s.1.length + 1 ∧ (thr1 W X Y s k).2 ≤ s.2 + 1 := by
  unfold thr1
  simp only
  constructor
  · split
    · omega
    · simp
  · split <;> omega
theorem manyL_len (W X Y : List F3) : (manyL W X Y).length ≤ X.length + Y.length := by
  unfold manyL
  rw [List.length_append]
  have := List.length_filter_le (pA W Y) X
  have := List.length_filter_le (pB W X) Y
  omega
theorem thrL_len {W X Y : List F3} : ∀ q, (thrL W X Y q).1.length ≤ X.length + Y.length + q ∧ (thrL W X Y q).2 ≤ q
  | 0 => ⟨manyL_len W X Y, Nat.le_refl _⟩
  | q + 1 => by
    have ih := thrL_len (W := W) (X := X) (Y := Y) q
    cases hk : kinds3[q]? with
    | none =>
      have h1 : 3 ≤ q := by simpa using List.getElem?_eq_none_iff.1 hk
      have : thrL W X Y (q + 1) = thrL W X Y q := by unfold thrL; rw [List.take_of_length_le (by simp; omega), List.take_of_length_le (by simp; omega)]
      rw [this]
      omega
    | some k =>
      rw [thrL_step hk]
      have := thr1_len (W := W) (X := X) (Y := Y) (s := thrL W X Y q) (k := k)
      omega
theorem isC_card {s : ByteArray} (h : isC s = true) : (parL s).2 = 0 ∧ (parL s).1.length ≤ 12 := by
  have h0 : (parL s).2 = 0 := by unfold isC at h; simpa using h
  exact ⟨h0, (card_nums (parL_card h0).1).1⟩
theorem isC_not {s : ByteArray} (h : isC s = false) : (parL s).2 = 1 := by
  rcases parL_cases s with h1 | h1
  · rw [h1.2.2] at h; cases h
  · exact h1.1
set_option maxHeartbeats 16000000 in
theorem three_any (o a b : ByteArray) (ho : o.size ≤ 1000000) (ha : a.size ≤ 1000000) (hb : b.size ≤ 1000000) (s : ByteArray) (n e : Int) (hr : threeS o a b = (s, n, e)) (w : World) (hE : Env w) :
    Calls Tryz.prog 10 #[.string o, .string a, .string b] w fun x w' => x = .returned (.tuple #[.string s, .int .i64 n, .int .i64 e]) ∧ Below w.heap.size w w' := by
  obtain ⟨W, e1, hp1⟩ : ∃ W e1, parL o = (W, e1) := ⟨_, _, rfl⟩
  obtain ⟨X, e2, hp2⟩ : ∃ X e2, parL a = (X, e2) := ⟨_, _, rfl⟩
  obtain ⟨Y, e3, hp3⟩ : ∃ Y e3, parL b = (Y, e3) := ⟨_, _, rfl⟩
  obtain ⟨nW, hnW⟩ : ∃ m, W.length = m := ⟨_, rfl⟩
  obtain ⟨nX, hnX⟩ : ∃ m, X.length = m := ⟨_, rfl⟩
  obtain ⟨nY, hnY⟩ : ∃ m, Y.length = m := ⟨_, rfl⟩
  have HE := Lib.hid hE
  have HR := Lib.hid hr
  have HQ1 := Lib.hid hp1
  have HQ2 := Lib.hid hp2
  have HQ3 := Lib.hid hp3
  have HNW := Lib.hid hnW
  have HNX := Lib.hid hnX
  have HNY := Lib.hid hnY
  have HVX := Lib.hid (show ∀ f ∈ X, f.2.2.size ≤ 1000000 from by have := parL_vals a ha; rw [hp2] at this; exact this)
  have HVY := Lib.hid (show ∀ f ∈ Y, f.2.2.size ≤ 1000000 from by have := parL_vals b hb; rw [hp3] at this; exact this)
  have HP1 := Lib.hid (fun v (h : Env v) => cparse_on o ho W e1 hp1 nW hnW v h)
  have HP2 := Lib.hid (fun v (h : Env v) => cparse_on a ha X e2 hp2 nX hnX v h)
  have HP3 := Lib.hid (fun v (h : Env v) => cparse_on b hb Y e3 hp3 nY hnY v h)
  have HC1 := Lib.hid (show (isC o = true ∧ e1 = 0 ∧ nW ≤ 12) ∨ (isC o = false ∧ e1 = 1) from by
    cases h : isC o with
    | true => have := isC_card h; rw [hp1] at this; exact .inl ⟨rfl, this.1, hnW ▸ this.2⟩
    | false => have := isC_not h; rw [hp1] at this; exact .inr ⟨rfl, this⟩)
  have HC2 := Lib.hid (show (isC a = true ∧ e2 = 0 ∧ nX ≤ 12) ∨ (isC a = false ∧ e2 = 1) from by
    cases h : isC a with
    | true => have := isC_card h; rw [hp2] at this; exact .inl ⟨rfl, this.1, hnX ▸ this.2⟩
    | false => have := isC_not h; rw [hp2] at this; exact .inr ⟨rfl, this⟩)
  have HC3 := Lib.hid (show (isC b = true ∧ e3 = 0 ∧ nY ≤ 12) ∨ (isC b = false ∧ e3 = 1) from by
    cases h : isC b with
    | true => have := isC_card h; rw [hp3] at this; exact .inl ⟨rfl, this.1, hnY ▸ this.2⟩
    | false => have := isC_not h; rw [hp3] at this; exact .inr ⟨rfl, this⟩)
  clear hE hr hp1 hp2 hp3 hnW hnX hnY ho ha hb
  rcases HC1.out with ⟨hc1, rfl, hl1⟩ | ⟨hc1, rfl⟩
  · rcases HC2.out with ⟨hc2, rfl, hl2⟩ | ⟨hc2, rfl⟩
    · rcases HC3.out with ⟨hc3, rfl, hl3⟩ | ⟨hc3, rfl⟩
      · have HT := Lib.hid (show threeL W X Y = (s, n, e) from by rw [← HR.out]; unfold threeS; rw [hc1, hc2, hc3, HQ1.out, HQ2.out, HQ3.out]; rfl)
        clear HR HQ1 HQ2 HQ3 HC1 HC2 HC3
        go_enter Tryz.func10, Tryz.ntmps10
        go_wp2_with (first
        | (go_at_call 19; (with_reducible refine (HP1.out _ (HE.out.on (Below.refl _ _))).mono ?_); rintro _ w1 ⟨AW, cW, gW, rfl, hf, hb⟩; have HF1 := Lib.hid hf; have HB1 := Lib.hid (hb); clear hf hb)
        | (go_at_call 19; (with_reducible refine (HP2.out _ (HE.out.on HB1.out)).mono ?_); rintro _ w2 ⟨AX, cX, gX, rfl, hf, hb⟩; have HF2 := Lib.hid hf; have HB2 := Lib.hid (HB1.out.trans (hb.mono HB1.out.size)); have HF1b := Lib.hid (HF1.out.below hb); clear hf hb)
        | (go_at_call 19; (with_reducible refine (HP3.out _ (HE.out.on HB2.out)).mono ?_); rintro _ w3 ⟨AY, cY, gY, rfl, hf, hb⟩; have HF3 := Lib.hid hf; have HB3 := Lib.hid (HB2.out.trans (hb.mono HB2.out.size)); have HF1c := Lib.hid (HF1b.out.below hb); have HF2c := Lib.hid (HF2.out.below hb); clear hf hb)
        | (go_at_call 20; (with_reducible refine (many_any HF1c.out HF2c.out HF3.out nW nX nY HNW.out HNX.out HNY.out (by omega) (by omega) (by omega)).mono ?_); rintro _ w4 ⟨V4, rfl, hrow, hb⟩; have HROW4 := Lib.hid hrow; have HB4 := Lib.hid hb; clear hrow hb)
        | fail)
        obtain ⟨B, hB⟩ : ∃ B, w3.heap.size = B := ⟨_, rfl⟩
        obtain ⟨k, hk⟩ : ∃ k, w4.heap.size = k := ⟨_, rfl⟩
        have HBk := Lib.hid (show B ≤ k from by have := HB4.out.size; omega)
        obtain ⟨W5, hW5⟩ : ∃ W5, w4.alloc (.cells #[.int .i64 1, .int .i64 2, .int .i64 5] 3) = W5 := ⟨_, rfl⟩
        have HK5 := Lib.hid (show Blk W5 k 3 #[.int .i64 1, .int .i64 2, .int .i64 5] from hk ▸ hW5 ▸ Blk.new w4 3 _)
        have HR5 := Lib.hid (show Fr3 W5 B V4 (thrL W X Y 0).1.length (thrL W X Y 0).1 from hW5 ▸ hB ▸ World.ownsRow.alloc HROW4.out _)
        have HB5 := Lib.hid (show Below B w3 W5 from hW5 ▸ hB ▸ HB4.out.alloc HB4.out.size _)
        have HBB := Lib.hid hB
        try rw [hW5]
        try simp only [hk]
        clear hW5 hk hB HP1 HP2 HP3 HROW4 HF1 HF1b HF2
        go_loopw [15, 7, 51] (fun l t i wr => ∃ q : Nat, q ≤ 3 ∧ i = .int .i64 (q : Int) ∧ t = .int .i64 (((thrL W X Y q).2 : Nat) : Int) ∧ Fr3 wr B l (thrL W X Y q).1.length (thrL W X Y q).1 ∧ Blk wr k 3 #[.int .i64 1, .int .i64 2, .int .i64 5] ∧ Below B w3 wr) (fun _ _ i _ => 3 - (intOf i).toNat)
        case atStart => exact ⟨0, Nat.zero_le _, rfl, rfl, HR5.out, HK5.out, HB5.out⟩
        case round =>
          clear HR5 HK5 HB5
          obtain ⟨q, hq, rfl, rfl, hrow, hkb, hb⟩ := hrel
          obtain ⟨ML, tm, hML⟩ : ∃ ML tm, thrL W X Y q = (ML, tm) := ⟨_, _, rfl⟩
          have hlen := thrL_len (W := W) (X := X) (Y := Y) q
          rw [hML] at hrow hlen ⊢
          simp only at hrow hlen ⊢
          obtain ⟨m, hm⟩ : ∃ m, ML.length = m := ⟨_, rfl⟩
          rw [hm] at hrow hlen
          have hm1 : m ≤ 100 := by have := HNX.out; have := HNY.out; omega
          have htI : (tm : Int) ≤ 3 := by omega
          have htI0 : (0 : Int) ≤ (tm : Int) := by omega
          have HM := Lib.hid hm
          have HTH := Lib.hid hML
          have HROW := Lib.hid hrow
          have HKB := Lib.hid hkb
          have HB := Lib.hid hb
          have HBs := Lib.hid (show B ≤ wr.heap.size from by have h1 := hb.size; have h2 := HBB.out; omega)
          clear hrow hkb hb hML hm hlen
          by_cases hql : q < 3
          · obtain ⟨c, hc, hcell⟩ : ∃ c : Int, kinds3[q]? = some c ∧ wr.cell? ⟨k, q, none⟩ = some (.int .i64 c) := by
              have hy := HKB.out
              have y0 := hy.cell 0
              have y1 := hy.cell 1
              have y2 := hy.cell 2
              match q, hql with
              | 0, _ => exact ⟨1, rfl, y0⟩
              | 1, _ => exact ⟨2, rfl, y1⟩
              | 2, _ => exact ⟨5, rfl, y2⟩
            have hst := thrL_step (W := W) (X := X) (Y := Y) hc
            rw [HTH.out] at hst
            unfold thr1 at hst
            obtain ⟨o1, o2, o3, hoF⟩ : ∃ x y z, onlyF c W = (x, y, z) := ⟨_, _, _, rfl⟩
            obtain ⟨a1, a2, a3, haF⟩ : ∃ x y z, onlyF c X = (x, y, z) := ⟨_, _, _, rfl⟩
            obtain ⟨b1, b2, b3, hbF⟩ : ∃ x y z, onlyF c Y = (x, y, z) := ⟨_, _, _, rfl⟩
            obtain ⟨f1, f2, f3, cl, hone⟩ : ∃ x y z u, oneF (o1, o2, o3) (a1, a2, a3) (b1, b2, b3) = ((x, y, z), u) := ⟨_, _, _, _, rfl⟩
            rw [hoF, haF, hbF, hone] at hst
            simp only at hst
            have HST := Lib.hid hst
            have HO1 := Lib.hid (fun (v : World) (h : Below B w3 v) => only_any (HF1c.out.below (HBB.out ▸ h)) nW HNW.out (by omega) c o1 o2 o3 hoF)
            have HO2 := Lib.hid (fun (v : World) (h : Below B w3 v) => only_any (HF2c.out.below (HBB.out ▸ h)) nX HNX.out (by omega) c a1 a2 a3 haF)
            have HO3 := Lib.hid (fun (v : World) (h : Below B w3 v) => only_any (HF3.out.below (HBB.out ▸ h)) nY HNY.out (by omega) c b1 b2 b3 hbF)
            have HONE := Lib.hid (fun v => one_any o1 o2 o3 a1 a2 a3 b1 b2 b3 f1 f2 f3 cl hone v)
            have hqI : (q : Int) < 3 := by omega
            have hqJ : (0 : Int) ≤ (q : Int) := by omega
            clear hc hst hoF haF hbF hone
            have i1 : IntKind.i64.wrap ((tm : Int) + 1) = (tm : Int) + 1 := IntWalk.i64_in _ (by omega)
            have htc : ((tm + 1 : Nat) : Int) = (tm : Int) + 1 := by omega
            have HTC := Lib.hid htc
            clear htc
            by_cases hz : ((f1, f2, f3) : F3) = zF
            · cases cl with
              | false =>
                have heq : ∀ wq, Sem.run Tryz.prog (binOp .neq 37 (.agg #[.int .i64 f1, .int .i64 f2, .string f3]) (.agg #[.int .i64 0, .int .i64 0, .string ⟨#[]⟩])) wq = .ok (.bool false) wq := fun wq => by have := neF_run (f1, f2, f3) zF wq; rw [decide_eq_true hz] at this; exact this
                have HST2 := Lib.hid (show thrL W X Y (q + 1) = (ML, tm) from by rw [HST.out, if_pos hz]; rfl)
                clear HST hz
                go_wp2_with (first
                  | (go_at_call 22; (with_reducible refine (HO1.out _ HB.out).mono ?_); rintro _ u1 ⟨rfl, hb⟩; have HU1 := Lib.hid (HB.out.trans (hb.mono HBs.out)); have HS1 := Lib.hid (Nat.le_trans HBs.out hb.size); have HR1 := Lib.hid (fr3_keep HROW.out (fun j _ hj => hb.block j hj)); have HK1 := Lib.hid (HKB.out.below hb HKB.out.lt); clear hb)
                  | (go_at_call 22; (with_reducible refine (HO2.out _ HU1.out).mono ?_); rintro _ u2 ⟨rfl, hb⟩; have HU2 := Lib.hid (HU1.out.trans (hb.mono HS1.out)); have HS2 := Lib.hid (Nat.le_trans HS1.out hb.size); have HR2 := Lib.hid (fr3_keep HR1.out (fun j _ hj => hb.block j hj)); have HK2 := Lib.hid (HK1.out.below hb HK1.out.lt); clear hb)
                  | (go_at_call 22; (with_reducible refine (HO3.out _ HU2.out).mono ?_); rintro _ u3 ⟨rfl, hb⟩; have HU3 := Lib.hid (HU2.out.trans (hb.mono HS2.out)); have HS3 := Lib.hid (Nat.le_trans HS2.out hb.size); have HR3 := Lib.hid (fr3_keep HR2.out (fun j _ hj => hb.block j hj)); have HK3 := Lib.hid (HK2.out.below hb HK2.out.lt); clear hb)
                  | (go_at_call 21; (with_reducible refine (HONE.out _).mono ?_); rintro _ u4 ⟨rfl, hb⟩; have HU4 := Lib.hid (HU3.out.trans (hb.mono HS3.out)); have HS4 := Lib.hid (Nat.le_trans HS3.out hb.size); have HR4 := Lib.hid (fr3_keep HR3.out (fun j _ hj => hb.block j hj)); have HK4 := Lib.hid (HK3.out.below hb HK3.out.lt); clear hb)
                  | fail)
                go_roundw
                case rel => exact ⟨q + 1, by omega, by go_num, by rw [HST2.out], by rw [HST2.out]; show Fr3 _ B _ ML.length _; rw [HM.out]; exact World.ownsRow.alloc HR4.out _, HK4.out.alloc _, HU4.out.alloc HS4.out _⟩
                case measure => simp [intOf]; omega
              | true =>
                have heq : ∀ wq, Sem.run Tryz.prog (binOp .neq 37 (.agg #[.int .i64 f1, .int .i64 f2, .string f3]) (.agg #[.int .i64 0, .int .i64 0, .string ⟨#[]⟩])) wq = .ok (.bool false) wq := fun wq => by have := neF_run (f1, f2, f3) zF wq; rw [decide_eq_true hz] at this; exact this
                have HST2 := Lib.hid (show thrL W X Y (q + 1) = (ML, tm + 1) from by rw [HST.out, if_pos hz]; rfl)
                clear HST hz
                go_wp2_with (first
                  | (go_at_call 22; (with_reducible refine (HO1.out _ HB.out).mono ?_); rintro _ u1 ⟨rfl, hb⟩; have HU1 := Lib.hid (HB.out.trans (hb.mono HBs.out)); have HS1 := Lib.hid (Nat.le_trans HBs.out hb.size); have HR1 := Lib.hid (fr3_keep HROW.out (fun j _ hj => hb.block j hj)); have HK1 := Lib.hid (HKB.out.below hb HKB.out.lt); clear hb)
                  | (go_at_call 22; (with_reducible refine (HO2.out _ HU1.out).mono ?_); rintro _ u2 ⟨rfl, hb⟩; have HU2 := Lib.hid (HU1.out.trans (hb.mono HS1.out)); have HS2 := Lib.hid (Nat.le_trans HS1.out hb.size); have HR2 := Lib.hid (fr3_keep HR1.out (fun j _ hj => hb.block j hj)); have HK2 := Lib.hid (HK1.out.below hb HK1.out.lt); clear hb)
                  | (go_at_call 22; (with_reducible refine (HO3.out _ HU2.out).mono ?_); rintro _ u3 ⟨rfl, hb⟩; have HU3 := Lib.hid (HU2.out.trans (hb.mono HS2.out)); have HS3 := Lib.hid (Nat.le_trans HS2.out hb.size); have HR3 := Lib.hid (fr3_keep HR2.out (fun j _ hj => hb.block j hj)); have HK3 := Lib.hid (HK2.out.below hb HK2.out.lt); clear hb)
                  | (go_at_call 21; (with_reducible refine (HONE.out _).mono ?_); rintro _ u4 ⟨rfl, hb⟩; have HU4 := Lib.hid (HU3.out.trans (hb.mono HS3.out)); have HS4 := Lib.hid (Nat.le_trans HS3.out hb.size); have HR4 := Lib.hid (fr3_keep HR3.out (fun j _ hj => hb.block j hj)); have HK4 := Lib.hid (HK3.out.below hb HK3.out.lt); clear hb)
                  | fail)
                go_roundw
                case rel => exact ⟨q + 1, by omega, by go_num, by rw [HST2.out]; show _ = Value.int .i64 ((tm + 1 : Nat) : Int); rw [HTC.out], by rw [HST2.out]; show Fr3 _ B _ ML.length _; rw [HM.out]; exact World.ownsRow.alloc HR4.out _, HK4.out.alloc _, HU4.out.alloc HS4.out _⟩
                case measure => simp [intOf]; omega
            · cases cl with
              | false =>
                have heq : ∀ wq, Sem.run Tryz.prog (binOp .neq 37 (.agg #[.int .i64 f1, .int .i64 f2, .string f3]) (.agg #[.int .i64 0, .int .i64 0, .string ⟨#[]⟩])) wq = .ok (.bool true) wq := fun wq => by have := neF_run (f1, f2, f3) zF wq; rw [decide_eq_false hz] at this; exact this
                have HST2 := Lib.hid (show thrL W X Y (q + 1) = (ML ++ [(f1, f2, f3)], tm) from by rw [HST.out, if_neg hz]; rfl)
                clear HST hz
                go_wp2_with (first
                  | (go_at_call 22; (with_reducible refine (HO1.out _ HB.out).mono ?_); rintro _ u1 ⟨rfl, hb⟩; have HU1 := Lib.hid (HB.out.trans (hb.mono HBs.out)); have HS1 := Lib.hid (Nat.le_trans HBs.out hb.size); have HR1 := Lib.hid (fr3_keep HROW.out (fun j _ hj => hb.block j hj)); have HK1 := Lib.hid (HKB.out.below hb HKB.out.lt); clear hb)
                  | (go_at_call 22; (with_reducible refine (HO2.out _ HU1.out).mono ?_); rintro _ u2 ⟨rfl, hb⟩; have HU2 := Lib.hid (HU1.out.trans (hb.mono HS1.out)); have HS2 := Lib.hid (Nat.le_trans HS1.out hb.size); have HR2 := Lib.hid (fr3_keep HR1.out (fun j _ hj => hb.block j hj)); have HK2 := Lib.hid (HK1.out.below hb HK1.out.lt); clear hb)
                  | (go_at_call 22; (with_reducible refine (HO3.out _ HU2.out).mono ?_); rintro _ u3 ⟨rfl, hb⟩; have HU3 := Lib.hid (HU2.out.trans (hb.mono HS2.out)); have HS3 := Lib.hid (Nat.le_trans HS2.out hb.size); have HR3 := Lib.hid (fr3_keep HR2.out (fun j _ hj => hb.block j hj)); have HK3 := Lib.hid (HK2.out.below hb HK2.out.lt); clear hb)
                  | (go_at_call 21; (with_reducible refine (HONE.out _).mono ?_); rintro _ u4 ⟨rfl, hb⟩; have HU4 := Lib.hid (HU3.out.trans (hb.mono HS3.out)); have HS4 := Lib.hid (Nat.le_trans HS3.out hb.size); have HR4 := Lib.hid (fr3_keep HR3.out (fun j _ hj => hb.block j hj)); have HK4 := Lib.hid (HK3.out.below hb HK3.out.lt); clear hb; obtain ⟨u5, hu5⟩ : ∃ u5, u4.alloc (.cells #[.int .i64 f1, .int .i64 f2, .string f3] 37) = u5 := ⟨_, rfl⟩; obtain ⟨u6, hu6⟩ : ∃ u6, u5.alloc (.cells #[.int .i64 f1, .int .i64 f2, .string f3] 37) = u6 := ⟨_, rfl⟩; have HR6 := Lib.hid (show Fr3 u6 B _ m ML from hu6 ▸ World.ownsRow.alloc (hu5 ▸ World.ownsRow.alloc HR4.out _) _); have HK6 := Lib.hid (show Blk u6 k 3 _ from hu6 ▸ (hu5 ▸ HK4.out.alloc _ : Blk u5 k 3 _).alloc _); have HU5 := Lib.hid (show Below B w3 u5 from hu5 ▸ HU4.out.alloc HS4.out _); have HS5 := Lib.hid (show B ≤ u5.heap.size from by have h1 := HU5.out.size; have h2 := HBB.out; omega); have HU6 := Lib.hid (show Below B w3 u6 from hu6 ▸ HU5.out.alloc HS5.out _); have HS6 := Lib.hid (show B ≤ u6.heap.size from by have h1 := HU6.out.size; have h2 := HBB.out; omega); have HB6 := Lib.hid (show Blk u6 u5.heap.size 37 #[.int .i64 f1, .int .i64 f2, .string f3] from hu6 ▸ Blk.new u5 37 _); have HE5 := Lib.hid hu5; have HE6 := Lib.hid hu6; have HZ5 := Lib.hid (show u4.heap.size + 1 = u5.heap.size from by rw [← hu5]; simp); clear hu5 hu6)
                  | (at_builtin; rw [HE5.out, HE6.out]; go_must (refine fr3_push _ rfl (.tmp 74) (.tmp 76) 27 rfl Tryz.underlying27 info36 B _ m ML rfl HR6.out u5.heap.size (f1, f2, f3) (by rw [← HZ5.out]; rfl) HB6.out (by omega) HS6.out ?_))
                  | fail)
                intro V' w7 hown hgr
                have HO7 := Lib.hid hown
                have HK7 := Lib.hid (blk_row HK6.out HR6.out (by decide) hgr)
                have HW7 := Lib.hid (HU6.out.grown hgr HS6.out (fun j e => (HR6.out.lt j e).1))
                clear hown hgr
                go_wp2_with fail
                go_roundw
                case rel => exact ⟨q + 1, by omega, by go_num, by rw [HST2.out], by rw [HST2.out]; show Fr3 _ B _ (ML ++ [(f1, f2, f3)]).length _; rw [List.length_append, HM.out]; exact HO7.out, HK7.out, HW7.out⟩
                case measure => simp [intOf]; omega
              | true =>
                have heq : ∀ wq, Sem.run Tryz.prog (binOp .neq 37 (.agg #[.int .i64 f1, .int .i64 f2, .string f3]) (.agg #[.int .i64 0, .int .i64 0, .string ⟨#[]⟩])) wq = .ok (.bool true) wq := fun wq => by have := neF_run (f1, f2, f3) zF wq; rw [decide_eq_false hz] at this; exact this
                have HST2 := Lib.hid (show thrL W X Y (q + 1) = (ML ++ [(f1, f2, f3)], tm + 1) from by rw [HST.out, if_neg hz]; rfl)
                clear HST hz
                go_wp2_with (first
                  | (go_at_call 22; (with_reducible refine (HO1.out _ HB.out).mono ?_); rintro _ u1 ⟨rfl, hb⟩; have HU1 := Lib.hid (HB.out.trans (hb.mono HBs.out)); have HS1 := Lib.hid (Nat.le_trans HBs.out hb.size); have HR1 := Lib.hid (fr3_keep HROW.out (fun j _ hj => hb.block j hj)); have HK1 := Lib.hid (HKB.out.below hb HKB.out.lt); clear hb)
                  | (go_at_call 22; (with_reducible refine (HO2.out _ HU1.out).mono ?_); rintro _ u2 ⟨rfl, hb⟩; have HU2 := Lib.hid (HU1.out.trans (hb.mono HS1.out)); have HS2 := Lib.hid (Nat.le_trans HS1.out hb.size); have HR2 := Lib.hid (fr3_keep HR1.out (fun j _ hj => hb.block j hj)); have HK2 := Lib.hid (HK1.out.below hb HK1.out.lt); clear hb)
                  | (go_at_call 22; (with_reducible refine (HO3.out _ HU2.out).mono ?_); rintro _ u3 ⟨rfl, hb⟩; have HU3 := Lib.hid (HU2.out.trans (hb.mono HS2.out)); have HS3 := Lib.hid (Nat.le_trans HS2.out hb.size); have HR3 := Lib.hid (fr3_keep HR2.out (fun j _ hj => hb.block j hj)); have HK3 := Lib.hid (HK2.out.below hb HK2.out.lt); clear hb)
                  | (go_at_call 21; (with_reducible refine (HONE.out _).mono ?_); rintro _ u4 ⟨rfl, hb⟩; have HU4 := Lib.hid (HU3.out.trans (hb.mono HS3.out)); have HS4 := Lib.hid (Nat.le_trans HS3.out hb.size); have HR4 := Lib.hid (fr3_keep HR3.out (fun j _ hj => hb.block j hj)); have HK4 := Lib.hid (HK3.out.below hb HK3.out.lt); clear hb; obtain ⟨u5, hu5⟩ : ∃ u5, u4.alloc (.cells #[.int .i64 f1, .int .i64 f2, .string f3] 37) = u5 := ⟨_, rfl⟩; obtain ⟨u6, hu6⟩ : ∃ u6, u5.alloc (.cells #[.int .i64 f1, .int .i64 f2, .string f3] 37) = u6 := ⟨_, rfl⟩; have HR6 := Lib.hid (show Fr3 u6 B _ m ML from hu6 ▸ World.ownsRow.alloc (hu5 ▸ World.ownsRow.alloc HR4.out _) _); have HK6 := Lib.hid (show Blk u6 k 3 _ from hu6 ▸ (hu5 ▸ HK4.out.alloc _ : Blk u5 k 3 _).alloc _); have HU5 := Lib.hid (show Below B w3 u5 from hu5 ▸ HU4.out.alloc HS4.out _); have HS5 := Lib.hid (show B ≤ u5.heap.size from by have h1 := HU5.out.size; have h2 := HBB.out; omega); have HU6 := Lib.hid (show Below B w3 u6 from hu6 ▸ HU5.out.alloc HS5.out _); have HS6 := Lib.hid (show B ≤ u6.heap.size from by have h1 := HU6.out.size; have h2 := HBB.out; omega); have HB6 := Lib.hid (show Blk u6 u5.heap.size 37 #[.int .i64 f1, .int .i64 f2, .string f3] from hu6 ▸ Blk.new u5 37 _); have HE5 := Lib.hid hu5; have HE6 := Lib.hid hu6; have HZ5 := Lib.hid (show u4.heap.size + 1 = u5.heap.size from by rw [← hu5]; simp); clear hu5 hu6)
                  | (at_builtin; rw [HE5.out, HE6.out]; go_must (refine fr3_push _ rfl (.tmp 74) (.tmp 76) 27 rfl Tryz.underlying27 info36 B _ m ML rfl HR6.out u5.heap.size (f1, f2, f3) (by rw [← HZ5.out]; rfl) HB6.out (by omega) HS6.out ?_))
                  | fail)
                intro V' w7 hown hgr
                have HO7 := Lib.hid hown
                have HK7 := Lib.hid (blk_row HK6.out HR6.out (by decide) hgr)
                have HW7 := Lib.hid (HU6.out.grown hgr HS6.out (fun j e => (HR6.out.lt j e).1))
                clear hown hgr
                go_wp2_with fail
                go_roundw
                case rel => exact ⟨q + 1, by omega, by go_num, by rw [HST2.out]; show _ = Value.int .i64 ((tm + 1 : Nat) : Int); rw [HTC.out], by rw [HST2.out]; show Fr3 _ B _ (ML ++ [(f1, f2, f3)]).length _; rw [List.length_append, HM.out]; exact HO7.out, HK7.out, HW7.out⟩
                case measure => simp [intOf]; omega
          · have hqe : q = 3 := by omega
            have hqI : ¬ (q : Int) < 3 := by omega
            have HV := Lib.hid (show ∀ f ∈ ML, f.2.2.size ≤ 1000000 from fun f hf => by
              have h1 := thrL_mem (W := W) (X := X) (Y := Y) q f (by rw [HTH.out]; exact hf)
              rcases h1 with h1 | h1
              · exact HVX.out f h1
              · exact HVY.out f h1)
            obtain ⟨tv, te, htx⟩ : ∃ tv te, txtL ML = (tv, te) := ⟨_, _, rfl⟩
            have HT3 := Lib.hid (show (if te = 0 then (tv, (tm : Int), 0) else (⟨#[]⟩, 0, te)) = (s, n, e) from by rw [← HT.out]; unfold threeL; rw [← hqe, HTH.out]; simp only; rw [htx])
            obtain ⟨A, cap, g, rfl, hfv⟩ := fr3_fv HROW.out HM.out
            have HBW := Lib.hid (show Below w.heap.size w wr from HB3.out.trans (HB.out.mono (by have := HB3.out.size; have := HBB.out; omega)))
            have HTX := Lib.hid (text_on m HM.out tv te htx hfv (by have := HM.out; omega) HV.out (HE.out.on HBW.out))
            clear hql hqe htx hfv HF1c HF2c HF3
            by_cases hte : te = 0
            · subst hte
              have HT4 := Lib.hid (show (tv, (tm : Int), (0 : Int)) = (s, n, e) from by rw [← HT3.out, if_pos rfl])
              clear HT3
              go_wp2_with (first
                | (go_at_call 23; (with_reducible refine HTX.out.mono ?_); rintro _ u1 ⟨rfl, hb⟩; have HU1 := Lib.hid (HBW.out.trans (hb.mono HBW.out.size)); clear hb)
                | fail)
              go_ret3
              obtain ⟨rfl, h2⟩ := Prod.mk.inj HT4.out
              obtain ⟨rfl, rfl⟩ := Prod.mk.inj h2
              exact ⟨rfl, HU1.out⟩
            · have hteb : (te != 0) = true := by simpa using hte
              have HT4 := Lib.hid (show ((⟨#[]⟩, 0, te) : ByteArray × Int × Int) = (s, n, e) from by rw [← HT3.out, if_neg hte])
              clear HT3 hte
              go_wp2_with (first
                | (go_at_call 23; (with_reducible refine HTX.out.mono ?_); rintro _ u1 ⟨rfl, hb⟩; have HU1 := Lib.hid (HBW.out.trans (hb.mono HBW.out.size)); clear hb)
                | fail)
              go_ret3
              obtain ⟨rfl, h2⟩ := Prod.mk.inj HT4.out
              obtain ⟨rfl, rfl⟩ := Prod.mk.inj h2
              exact ⟨rfl, HU1.out⟩
      · have HBAD := Lib.hid (show ((⟨#[]⟩, 0, 1) : ByteArray × Int × Int) = (s, n, e) from by rw [← HR.out]; unfold threeS; rw [hc3]; simp)
        clear HR
        go_enter Tryz.func10, Tryz.ntmps10
        go_wp2_with (first
        | (go_at_call 19; (with_reducible refine (HP1.out _ (HE.out.on (Below.refl _ _))).mono ?_); rintro _ w1 ⟨AW, cW, gW, rfl, hf, hb⟩; have HF1 := Lib.hid hf; have HB1 := Lib.hid (hb); clear hf hb)
        | (go_at_call 19; (with_reducible refine (HP2.out _ (HE.out.on HB1.out)).mono ?_); rintro _ w2 ⟨AX, cX, gX, rfl, hf, hb⟩; have HF2 := Lib.hid hf; have HB2 := Lib.hid (HB1.out.trans (hb.mono HB1.out.size)); have HF1b := Lib.hid (HF1.out.below hb); clear hf hb)
        | (go_at_call 19; (with_reducible refine (HP3.out _ (HE.out.on HB2.out)).mono ?_); rintro _ w3 ⟨AY, cY, gY, rfl, hf, hb⟩; have HF3 := Lib.hid hf; have HB3 := Lib.hid (HB2.out.trans (hb.mono HB2.out.size)); have HF1c := Lib.hid (HF1b.out.below hb); have HF2c := Lib.hid (HF2.out.below hb); clear hf hb)
        | fail)
        go_ret3
        obtain ⟨rfl, h2⟩ := Prod.mk.inj HBAD.out
        obtain ⟨rfl, rfl⟩ := Prod.mk.inj h2
        exact ⟨rfl, HB3.out⟩
    · have HBAD := Lib.hid (show ((⟨#[]⟩, 0, 1) : ByteArray × Int × Int) = (s, n, e) from by rw [← HR.out]; unfold threeS; rw [hc2]; simp)
      clear HR
      go_enter Tryz.func10, Tryz.ntmps10
      go_wp2_with (first
      | (go_at_call 19; (with_reducible refine (HP1.out _ (HE.out.on (Below.refl _ _))).mono ?_); rintro _ w1 ⟨AW, cW, gW, rfl, hf, hb⟩; have HF1 := Lib.hid hf; have HB1 := Lib.hid (hb); clear hf hb)
      | (go_at_call 19; (with_reducible refine (HP2.out _ (HE.out.on HB1.out)).mono ?_); rintro _ w2 ⟨AX, cX, gX, rfl, hf, hb⟩; have HF2 := Lib.hid hf; have HB2 := Lib.hid (HB1.out.trans (hb.mono HB1.out.size)); have HF1b := Lib.hid (HF1.out.below hb); clear hf hb)
      | (go_at_call 19; (with_reducible refine (HP3.out _ (HE.out.on HB2.out)).mono ?_); rintro _ w3 ⟨AY, cY, gY, rfl, hf, hb⟩; have HF3 := Lib.hid hf; have HB3 := Lib.hid (HB2.out.trans (hb.mono HB2.out.size)); have HF1c := Lib.hid (HF1b.out.below hb); have HF2c := Lib.hid (HF2.out.below hb); clear hf hb)
      | fail)
      go_ret3
      obtain ⟨rfl, h2⟩ := Prod.mk.inj HBAD.out
      obtain ⟨rfl, rfl⟩ := Prod.mk.inj h2
      exact ⟨rfl, HB3.out⟩
  · have HBAD := Lib.hid (show ((⟨#[]⟩, 0, 1) : ByteArray × Int × Int) = (s, n, e) from by rw [← HR.out]; unfold threeS; rw [hc1]; simp)
    clear HR
    go_enter Tryz.func10, Tryz.ntmps10
    go_wp2_with (first
    | (go_at_call 19; (with_reducible refine (HP1.out _ (HE.out.on (Below.refl _ _))).mono ?_); rintro _ w1 ⟨AW, cW, gW, rfl, hf, hb⟩; have HF1 := Lib.hid hf; have HB1 := Lib.hid (hb); clear hf hb)
    | (go_at_call 19; (with_reducible refine (HP2.out _ (HE.out.on HB1.out)).mono ?_); rintro _ w2 ⟨AX, cX, gX, rfl, hf, hb⟩; have HF2 := Lib.hid hf; have HB2 := Lib.hid (HB1.out.trans (hb.mono HB1.out.size)); have HF1b := Lib.hid (HF1.out.below hb); clear hf hb)
    | (go_at_call 19; (with_reducible refine (HP3.out _ (HE.out.on HB2.out)).mono ?_); rintro _ w3 ⟨AY, cY, gY, rfl, hf, hb⟩; have HF3 := Lib.hid hf; have HB3 := Lib.hid (HB2.out.trans (hb.mono HB2.out.size)); have HF1c := Lib.hid (HF1b.out.below hb); have HF2c := Lib.hid (HF2.out.below hb); clear hf hb)
    | fail)
    go_ret3
    obtain ⟨rfl, h2⟩ := Prod.mk.inj HBAD.out
    obtain ⟨rfl, rfl⟩ := Prod.mk.inj h2
    exact ⟨rfl, HB3.out⟩
end Go.Proofs.YtlcchkpjcekinaaGreatDoor
/- merge's laws: first, light. -/
namespace Go.Proofs.YtlcchkpjcekinaaGreatDoor
open Go.RowKit
open Go.Lib hiding intOf
open Go.Sort Go.Proofs
set_option linter.unusedVariables false
set_option linter.unusedSimpArgs false
set_option maxRecDepth 100000
abbrev ex1 : ByteArray := ⟨#[110, 97, 109, 101, 58, 65, 110, 110, 10, 116, 101, 108, 58, 49, 50, 51, 10]⟩
abbrev ex2 : ByteArray := ⟨#[110, 97, 109, 101, 58, 65, 110, 110, 10]⟩
abbrev ex3 : ByteArray := ⟨#[110, 97, 109, 101, 58, 65, 110, 110, 10, 116, 101, 108, 58, 49, 50, 51, 10, 109, 97, 105, 108, 58, 97, 64, 98, 46, 99, 111, 10]⟩
abbrev exR : ByteArray := ⟨#[110, 97, 109, 101, 58, 65, 110, 110, 10, 109, 97, 105, 108, 58, 97, 64, 98, 46, 99, 111, 10]⟩
theorem ex_three : threeS ex1 ex2 ex3 = (exR, 0, 0) := by decide +kernel
set_option maxHeartbeats 4000000 in
theorem first_any (w : World) (hE : Env w) : Calls Tryz.prog 8 #[] w fun e w' => e = .returned (.bool true) ∧ Below w.heap.size w w' := by
  have HT := Lib.hid (three_any ex1 ex2 ex3 (by decide) (by decide) (by decide) _ _ _ ex_three w hE)
  clear hE
  go_enter Tryz.func8, Tryz.ntmps8
  go_wp2_with (first
    | (go_at_call 10; refine HT.out.mono ?_; rintro _ w1 ⟨rfl, hb⟩; have HB1 := Lib.hid hb; clear hb)
    | fail)
  go_ret
  exact ⟨rfl, HB1.out⟩
theorem light_yes (a b c : ByteArray) (ha : (a.size : Int) ≤ 1000) (hb : (b.size : Int) ≤ 1000) (hc : (c.size : Int) ≤ 1000) (w : World) : Calls Tryz.prog 9 #[.string a, .string b, .string c] w fun e w' => e = .returned (.bool true) ∧ w' = w := by
  go_enter Tryz.func9, Tryz.ntmps9
  go_wp2
  go_ret
  exact ⟨rfl, rfl⟩
theorem light_no (a b c : ByteArray) (h : 1000 < a.size ∨ 1000 < b.size ∨ 1000 < c.size) (w : World) : Calls Tryz.prog 9 #[.string a, .string b, .string c] w fun e w' => e = .returned (.bool false) ∧ w' = w := by
  by_cases h1 : (a.size : Int) ≤ 1000
  · by_cases h2 : (b.size : Int) ≤ 1000
    · have h3 : ¬ (c.size : Int) ≤ 1000 := by omega
      clear h
      go_enter Tryz.func9, Tryz.ntmps9
      go_wp2
      go_ret
      exact ⟨rfl, rfl⟩
    · clear h
      go_enter Tryz.func9, Tryz.ntmps9
      go_wp2
      go_ret
      exact ⟨rfl, rfl⟩
  · clear h
    go_enter Tryz.func9, Tryz.ntmps9
    go_wp2
    go_ret
    exact ⟨rfl, rfl⟩
theorem three_on (o a b : ByteArray) (ho : o.size ≤ 1000000) (ha : a.size ≤ 1000000) (hb : b.size ≤ 1000000) (s : ByteArray) (n e : Int) (hr : threeS o a b = (s, n, e)) (w : World) (hE : Env w) : Calls Tryz.prog 10 #[.string o, .string a, .string b] w fun x w' => x = .returned (.tuple #[.string s, .int .i64 n, .int .i64 e]) ∧ Below w.heap.size w w' := three_any o a b ho ha hb s n e hr w hE
end Go.Proofs.YtlcchkpjcekinaaGreatDoor
namespace Go.Proofs.YtlcchkpjcekinaaGreatDoor
open Go.RowKit
open Go.Lib hiding intOf
open Go.Sort Go.Proofs
set_option linter.unusedVariables false
set_option linter.unusedSimpArgs false
set_option maxRecDepth 100000
theorem onlyF_card (k : Int) (L : List F3) : True := trivial
theorem oneF_clash (base a b : F3) : (oneF base a b).2 = (oneF base b a).2 := by
  unfold oneF
  by_cases h1 : a = base <;> by_cases h2 : b = base <;> by_cases h3 : a = b <;> simp_all [eq_comm]
theorem oneF_same {base a b : F3} (h : (oneF base a b).2 = false) : (oneF base a b).1 = (oneF base b a).1 := by
  unfold oneF at h ⊢
  by_cases h1 : a = base
  · rw [if_pos h1]
    by_cases h2 : b = base
    · rw [if_pos h2, h1, h2]
    · rw [if_neg h2]
  · rw [if_neg h1] at h ⊢
    by_cases h2 : b = base
    · rw [if_pos h2]
    · rw [if_neg h2]
      by_cases h3 : a = b
      · exact h3
      · simp [h2, h3] at h
theorem hasF_false {f : F3} {L : List F3} : hasF f L = false ↔ f ∉ L := by
  rw [← Bool.not_eq_true, hasF_iff]
theorem manyL_iff (W X Y : List F3) (f : F3) : f ∈ manyL W X Y ↔ sev f.1 = true ∧ ((f ∈ X ∧ f ∈ Y) ∨ (f ∈ X ∧ f ∉ W) ∨ (f ∈ Y ∧ f ∉ W)) := by
  unfold manyL pA pB
  rw [List.mem_append, List.mem_filter, List.mem_filter]
  simp only [Bool.and_eq_true, Bool.or_eq_true, Bool.not_eq_true', hasF_iff, hasF_false]
  by_cases h1 : f ∈ X <;> by_cases h2 : f ∈ Y <;> by_cases h3 : f ∈ W <;> simp [h1, h2, h3]
theorem thrL_turn (W X Y : List F3) : ∀ q, (thrL W X Y q).2 = (thrL W Y X q).2 ∧ ((thrL W X Y q).2 = 0 → ∀ f, f ∈ (thrL W X Y q).1 ↔ f ∈ (thrL W Y X q).1)
  | 0 => ⟨rfl, fun _ f => by
    show f ∈ manyL W X Y ↔ f ∈ manyL W Y X
    rw [manyL_iff, manyL_iff]
    by_cases h1 : f ∈ X <;> by_cases h2 : f ∈ Y <;> by_cases h3 : f ∈ W <;> simp [h1, h2, h3]⟩
  | q + 1 => by
    have ih := thrL_turn W X Y q
    cases hk : kinds3[q]? with
    | none =>
      have h1 : 3 ≤ q := by simpa using List.getElem?_eq_none_iff.1 hk
      have e : ∀ X Y, thrL W X Y (q + 1) = thrL W X Y q := fun X Y => by unfold thrL; rw [List.take_of_length_le (by simp; omega), List.take_of_length_le (by simp; omega)]
      rw [e, e]
      exact ih
    | some k =>
      rw [thrL_step hk, thrL_step hk]
      unfold thr1
      simp only
      have hc := oneF_clash (onlyF k W) (onlyF k X) (onlyF k Y)
      have hs := @oneF_same (onlyF k W) (onlyF k X) (onlyF k Y)
      rw [← hc]
      cases hcl : (oneF (onlyF k W) (onlyF k X) (onlyF k Y)).2 with
      | true => exact ⟨by simp [ih.1], fun h => by simp at h⟩
      | false =>
        have hs2 := hs hcl
        rw [← hs2]
        refine ⟨by simpa using ih.1, fun h f => ?_⟩
        have h2 := ih.2 (by simpa using h) f
        split
        · exact h2
        · rw [List.mem_append, List.mem_append, h2]
theorem threeS_bad {o a b : ByteArray} (h : (threeS o a b).2.2 ≠ 0) : (threeS o a b).1 = ⟨#[]⟩ ∧ (threeS o a b).2.1 = 0 := by
  unfold threeS at *
  split at h
  · rename_i hc
    rw [if_pos hc]
    unfold threeL at *
    split at h
    · exact absurd rfl h
    · rename_i h2; rw [if_neg h2]; exact ⟨rfl, rfl⟩
  · rename_i hc; rw [if_neg hc]; exact ⟨rfl, rfl⟩
theorem threeS_ok {o a b : ByteArray} (h : (threeS o a b).2.2 = 0) : isC o = true ∧ isC a = true ∧ isC b = true ∧ (txtL (thrL (parL o).1 (parL a).1 (parL b).1 3).1).2 = 0 ∧ (threeS o a b).1 = (txtL (thrL (parL o).1 (parL a).1 (parL b).1 3).1).1 ∧ (threeS o a b).2.1 = ((thrL (parL o).1 (parL a).1 (parL b).1 3).2 : Int) := by
  unfold threeS at *
  split at h
  · rename_i hc
    rw [if_pos hc]
    simp only [Bool.and_eq_true] at hc
    unfold threeL at *
    split at h
    · rename_i h2; rw [if_pos h2]; exact ⟨hc.1.1, hc.1.2, hc.2, h2, rfl, rfl⟩
    · rename_i h2; exact absurd h h2
  · cases h
theorem three_turn {o a b s t : ByteArray} {n e m f : Int} (h1 : threeS o a b = (s, n, e)) (h2 : threeS o b a = (t, m, f)) : (e ≠ 0 ∧ s = ⟨#[]⟩ ∧ n = 0) ∨ (e = 0 ∧ f ≠ 0) ∨ (e = 0 ∧ f = 0 ∧ n = m ∧ n > 0) ∨ (e = 0 ∧ f = 0 ∧ n = m ∧ ¬ n > 0 ∧ s = t) := by
  by_cases he : e = 0
  · by_cases hf : f = 0
    · have k1 := threeS_ok (o := o) (a := a) (b := b) (by rw [h1]; exact he)
      have k2 := threeS_ok (o := o) (a := b) (b := a) (by rw [h2]; exact hf)
      rw [h1] at k1
      rw [h2] at k2
      simp only at k1 k2
      obtain ⟨_, _, _, _, e1, e2⟩ := k1
      obtain ⟨_, _, _, _, e3, e4⟩ := k2
      have ht := thrL_turn (parL o).1 (parL a).1 (parL b).1 3
      have hnm : n = m := by rw [e2, e4, ht.1]
      by_cases hn : n > 0
      · exact .inr (.inr (.inl ⟨he, hf, hnm, hn⟩))
      · have hz : (thrL (parL o).1 (parL a).1 (parL b).1 3).2 = 0 := by omega
        exact .inr (.inr (.inr ⟨he, hf, hnm, hn, by rw [e1, e3]; exact (txtL_same (ht.2 hz)).1⟩))
    · exact .inr (.inl ⟨he, hf⟩)
  · have k1 := threeS_bad (o := o) (a := a) (b := b) (by rw [h1]; exact he)
    rw [h1] at k1
    exact .inl ⟨he, k1.1, k1.2⟩
set_option maxHeartbeats 8000000 in
theorem mergeTurns_walk (w : World) (hTD : Tabs w ∧ Day.Tab w.heap.size w) (hM : Mx w) (a0 : ByteArray) (w0 : a0.size ≤ maxLen) (a1 : ByteArray) (w1 : a1.size ≤ maxLen) (a2 : ByteArray) (w2 : a2.size ≤ maxLen) :
    Calls Tryz.prog 5 #[.string a0, .string a1, .string a2] w fun e w' => e = .returned (.bool true) ∧ Below w.heap.size w w' := by
  have HE := Lib.hid (show Env w from ⟨hTD.1, hM, hTD.2⟩)
  have HF := Lib.hid (fun v (h : Env v) => first_any v h)
  by_cases hbig : 1000 < a0.size ∨ 1000 < a1.size ∨ 1000 < a2.size
  · have HL := Lib.hid (fun v => light_no a0 a1 a2 hbig v)
    clear hbig hTD hM w0 w1 w2
    go_enter Tryz.func5, Tryz.ntmps5
    go_wp2_with (first
      | (go_at_call 8; (with_reducible refine (HF.out _ HE.out).mono ?_); rintro _ v1 ⟨rfl, hb⟩; have HB1 := Lib.hid hb; clear hb)
      | (go_at_call 9; (with_reducible refine (HL.out _).mono ?_); rintro _ vz ⟨rfl, hw0⟩; replace hw0 := hw0.symm; subst hw0)
      | fail)
    refine (HF.out _ (HE.out.on HB1.out)).mono ?_
    rintro _ v2 ⟨rfl, hb⟩
    have HB2 := Lib.hid (HB1.out.trans (hb.mono HB1.out.size))
    clear hb
    go_wp2
    go_ret
    exact ⟨rfl, HB2.out⟩
  · have HL := Lib.hid (fun v => light_yes a0 a1 a2 (by omega) (by omega) (by omega) v)
    obtain ⟨s, n, e, h1⟩ : ∃ s n e, threeS a0 a1 a2 = (s, n, e) := ⟨_, _, _, rfl⟩
    obtain ⟨t, m, f, h2⟩ : ∃ s n e, threeS a0 a2 a1 = (s, n, e) := ⟨_, _, _, rfl⟩
    have H1 := Lib.hid (fun v (h : Env v) => three_on a0 a1 a2 (by omega) (by omega) (by omega) s n e h1 v h)
    have H2 := Lib.hid (fun v (h : Env v) => three_on a0 a2 a1 (by omega) (by omega) (by omega) t m f h2 v h)
    have hcases := three_turn h1 h2
    clear hbig hTD hM w0 w1 w2 h1 h2
    rcases hcases with ⟨he, rfl, rfl⟩ | ⟨rfl, hf⟩ | ⟨rfl, rfl, rfl, hn⟩ | ⟨rfl, rfl, rfl, hn, rfl⟩
    · have heb : (e != 0) = true := by simpa using he
      clear he
      go_enter Tryz.func5, Tryz.ntmps5
      go_wp2_with (first
        | (go_at_call 8; (with_reducible refine (HF.out _ HE.out).mono ?_); rintro _ v1 ⟨rfl, hb⟩; have HB1 := Lib.hid hb; clear hb)
        | (go_at_call 9; (with_reducible refine (HL.out _).mono ?_); rintro _ vz ⟨rfl, hw0⟩; replace hw0 := hw0.symm; subst hw0)
        | fail)
      refine (H1.out _ (HE.out.on HB1.out)).mono ?_
      rintro _ v2 ⟨rfl, hb⟩
      have HB2 := Lib.hid (HB1.out.trans (hb.mono HB1.out.size))
      clear hb
      go_wp2_with fail
      refine (H2.out _ (HE.out.on HB2.out)).mono ?_
      rintro _ v3 ⟨rfl, hb⟩
      have HB3 := Lib.hid (HB2.out.trans (hb.mono HB2.out.size))
      clear hb
      go_wp2
      go_ret
      exact ⟨rfl, HB3.out⟩
    · have hfb : (f != 0) = true := by simpa using hf
      clear hf
      go_enter Tryz.func5, Tryz.ntmps5
      go_wp2_with (first
        | (go_at_call 8; (with_reducible refine (HF.out _ HE.out).mono ?_); rintro _ v1 ⟨rfl, hb⟩; have HB1 := Lib.hid hb; clear hb)
        | (go_at_call 9; (with_reducible refine (HL.out _).mono ?_); rintro _ vz ⟨rfl, hw0⟩; replace hw0 := hw0.symm; subst hw0)
        | fail)
      refine (H1.out _ (HE.out.on HB1.out)).mono ?_
      rintro _ v2 ⟨rfl, hb⟩
      have HB2 := Lib.hid (HB1.out.trans (hb.mono HB1.out.size))
      clear hb
      go_wp2_with fail
      refine (H2.out _ (HE.out.on HB2.out)).mono ?_
      rintro _ v3 ⟨rfl, hb⟩
      have HB3 := Lib.hid (HB2.out.trans (hb.mono HB2.out.size))
      clear hb
      go_wp2
      go_ret
      exact ⟨rfl, HB3.out⟩
    · go_enter Tryz.func5, Tryz.ntmps5
      go_wp2_with (first
        | (go_at_call 8; (with_reducible refine (HF.out _ HE.out).mono ?_); rintro _ v1 ⟨rfl, hb⟩; have HB1 := Lib.hid hb; clear hb)
        | (go_at_call 9; (with_reducible refine (HL.out _).mono ?_); rintro _ vz ⟨rfl, hw0⟩; replace hw0 := hw0.symm; subst hw0)
        | fail)
      refine (H1.out _ (HE.out.on HB1.out)).mono ?_
      rintro _ v2 ⟨rfl, hb⟩
      have HB2 := Lib.hid (HB1.out.trans (hb.mono HB1.out.size))
      clear hb
      go_wp2_with fail
      refine (H2.out _ (HE.out.on HB2.out)).mono ?_
      rintro _ v3 ⟨rfl, hb⟩
      have HB3 := Lib.hid (HB2.out.trans (hb.mono HB2.out.size))
      clear hb
      go_wp2
      go_ret
      exact ⟨rfl, HB3.out⟩
    · go_enter Tryz.func5, Tryz.ntmps5
      go_wp2_with (first
        | (go_at_call 8; (with_reducible refine (HF.out _ HE.out).mono ?_); rintro _ v1 ⟨rfl, hb⟩; have HB1 := Lib.hid hb; clear hb)
        | (go_at_call 9; (with_reducible refine (HL.out _).mono ?_); rintro _ vz ⟨rfl, hw0⟩; replace hw0 := hw0.symm; subst hw0)
        | fail)
      refine (H1.out _ (HE.out.on HB1.out)).mono ?_
      rintro _ v2 ⟨rfl, hb⟩
      have HB2 := Lib.hid (HB1.out.trans (hb.mono HB1.out.size))
      clear hb
      go_wp2_with fail
      refine (H2.out _ (HE.out.on HB2.out)).mono ?_
      rintro _ v3 ⟨rfl, hb⟩
      have HB3 := Lib.hid (HB2.out.trans (hb.mono HB2.out.size))
      clear hb
      go_wp2
      go_ret
      exact ⟨rfl, HB3.out⟩
end Go.Proofs.YtlcchkpjcekinaaGreatDoor
