/- Texts of one proof, joined. -/
import Derived.Test.YtphijnkiiokieaaGreatDoorZbd
set_option linter.unusedVariables false
set_option linter.unusedSimpArgs false
set_option maxRecDepth 100000
set_option maxHeartbeats 80000000
namespace Go.Proofs.YtphijnkiiokieaaGreatDoor
open Go.RowKit
open Go.Lib hiding intOf
open Go.Sort Go.Proofs
theorem has_any {w : World} {A : Option Addr} {cap b off : Nat} {L : List F3} (h : Fv w A cap b off L) (n : Nat) (hn : L.length = n) (hs : n ≤ 100000) (f : F3) : Calls Tryz.prog 124 #[.slice A n cap, .agg #[.int .i64 f.1, .int .i64 f.2.1, .string f.2.2]] w fun e w' => e = .returned (.bool (hasF f L)) ∧ Below w.heap.size w w' := by
 obtain ⟨f1, f2, f3⟩ := f; obtain ⟨B, hB⟩ : ∃ B, w.heap.size = B := ⟨_, rfl⟩; obtain ⟨W1, hW1⟩ : ∃ W1, w.alloc (.cells #[.int .i64 f1, .int .i64 f2, .string f3] 92) = W1 := ⟨_, rfl⟩; have HY := Zh (show Blk W1 B 92 #[.int .i64 f1, .int .i64 f2, .string f3] from hB ▸ hW1 ▸ Blk.new w 92 _); have HB1 := Zh (show Below B w W1 from hB ▸ hW1 ▸ (Below.refl _ w).alloc (Nat.le_refl _) _); have HBB := Zh hB; have H1 := Zh (h.below (hB.symm ▸ HB1.out)); have HN := Zh hn; obtain ⟨r, hr⟩ : ∃ r, hasF (f1, f2, f3) L = r := ⟨_, rfl⟩; have HR := Zh hr; rw [hr, hB]; clear h hn hr
 go_enter Tryz.func124, Tryz.ntmps124
 go_wp2_with fail
 try rw [hW1]
 try simp only [hB]
 go_loopw [5] (fun i wr => ∃ q : Nat, q ≤ n ∧ i = .int .i64 (q : Int) ∧ hasF (f1, f2, f3) (L.take q) = false ∧ Below W1.heap.size W1 wr) (fun i _ => n - (intOf i).toNat)
 case atStart => exact ⟨0, Nat.zero_le _, rfl, rfl, Below.refl _ _⟩
 case round =>
  obtain ⟨q, hq, rfl, ht, hb⟩ := hrel; have HT := Zh ht; have HBr := Zh hb; clear ht hb hW1 hB
  by_cases hql : q < n
  ·
   obtain ⟨g, hg⟩ : ∃ g, L[q]? = some g := ⟨L[q]'(by rw [HN.out]; exact hql), List.getElem?_eq_getElem _⟩; obtain ⟨rfl, _, a0, a1, a2⟩ := (H1.out.below HBr.out).2 q g hg; have HG := Zh hg; have hY := HY.out.below HBr.out HY.out.lt; have b0 : wr.cell? ⟨B, 0, none⟩ = some (.int .i64 f1) := hY.cell 0; have b1 : wr.cell? ⟨B, 1, none⟩ = some (.int .i64 f2) := hY.cell 1; have b2 : wr.cell? ⟨B, 2, none⟩ = some (.string f3) := hY.cell 2; obtain ⟨g1, g2, g3⟩ := g; simp only at a0 a1 a2; have hqI : (q : Int) < (n : Int) := by omega
   clear hg hY
   by_cases he : ((g1, g2, g3) : F3) = (f1, f2, f3)
   ·
    have heq : ∀ wq, Sem.run Tryz.prog (binOp .eql 92 (.agg #[.int .i64 g1, .int .i64 g2, .string g3]) (.agg #[.int .i64 f1, .int .i64 f2, .string f3])) wq = .ok (.bool true) wq := fun wq => by have := eqF_run (g1, g2, g3) (f1, f2, f3) wq; rw [decide_eq_true he] at this; exact this
    have H0 := Zh (show true = r from by rw [← HR.out]; exact ((hasF_iff _ _).2 (he ▸ List.mem_of_getElem? HG.out)).symm)
    go_wp2_with fail
    go_quiet (fail)
    go_wp2
    go_ret
    exact ⟨by rw [← H0.out]; rfl, HB1.out.trans ((show Below W1.heap.size W1 (wr.drewN nq) from ⟨HBr.out.os, HBr.out.tape, HBr.out.output, HBr.out.size, HBr.out.block⟩).mono (by have := HB1.out.size; have := HBB.out; omega))⟩
   ·
    have heq : ∀ wq, Sem.run Tryz.prog (binOp .eql 92 (.agg #[.int .i64 g1, .int .i64 g2, .string g3]) (.agg #[.int .i64 f1, .int .i64 f2, .string f3])) wq = .ok (.bool false) wq := fun wq => by have := eqF_run (g1, g2, g3) (f1, f2, f3) wq; rw [decide_eq_false he] at this; exact this
    have HT2 := Zh (show hasF (f1, f2, f3) (L.take (q + 1)) = false from by
     unfold hasF
     rw [List.take_add_one, HG.out, List.any_append]; have := HT.out
     unfold hasF at this
     rw [this]
     simp [he])
    go_wp2_with fail
    go_quiet (fail)
    go_wp2
    go_roundw
    case rel => exact ⟨q + 1, by omega, by go_num, HT2.out, ⟨HBr.out.os, HBr.out.tape, HBr.out.output, HBr.out.size, HBr.out.block⟩⟩
    case measure => simp [intOf]; omega
  ·
   obtain rfl : q = n := by omega
   have H0 := Zh (show false = r from by rw [← HR.out]; have := HT.out; rw [← HN.out, List.take_length] at this; exact this.symm); clear hql
   go_wp2
   go_ret
   exact ⟨by rw [← H0.out]; rfl, HB1.out.trans (HBr.out.mono (by have := HB1.out.size; have := HBB.out; omega))⟩
theorem ins_at {l : List F3} {f : F3} {k : Nat} (hs : Str l) (hnot : hasF f l = false) (hk : k ≤ l.length) (h1 : ∀ j g, j < k → l[j]? = some g → ltF g f = true) (h2 : ∀ g, l[k]? = some g → ltF g f = false) : insF f l = l.take k ++ [f] ++ l.drop k := by
 have ht : ∀ g ∈ l.take k, ltF g f = true := fun g hg => by
  obtain ⟨j, hj, e⟩ := List.mem_iff_getElem.1 hg; rw [List.length_take] at hj; refine h1 j g (by omega) ?_; rw [List.getElem_take] at e; rw [← e, List.getElem?_eq_getElem]
 have hd : ∀ g ∈ l.drop k, ltF g f = false := by
  cases hc : l.drop k with
  | nil => intro g hg; cases hg
  | cons c rest =>
   have hkc : l[k]? = some c := by
    have : (l.drop k)[0]? = some c := by rw [hc]; rfl
    rwa [List.getElem?_drop, Nat.add_zero] at this
   have hcf := h2 c hkc; have hp : Str (c :: rest) := hc ▸ hs.sublist (List.drop_sublist _ _); intro g hg
   rcases List.mem_cons.1 hg with rfl | hr
   ·
    exact hcf
   ·
    have h3 := (List.pairwise_cons.1 hp).1 g hr
    cases h4 : ltF g f with
    | false => rfl
    | true => have := ltF_trans h3 h4; rw [hcf] at this; cases this
 unfold insF
 rw [hnot, if_neg (by decide)]; have e : l = l.take k ++ l.drop k := (List.take_append_drop k l).symm
 conv => lhs; rw [e]
 rw [List.filter_append, List.filter_append, List.filter_eq_self.2 ht, List.filter_eq_nil_iff.2 (fun g hg => by rw [hd g hg]; decide), List.filter_eq_nil_iff.2 (fun g hg => by rw [ht g hg]; decide), List.filter_eq_self.2 (fun g hg => by rw [hd g hg]; rfl)]
 simp
theorem rise_step {L : List F3} {i : Nat} {f : F3} (h : L[i]? = some f) : rise (L.take (i + 1)) = insF f (rise (L.take i)) := by
 rw [List.take_add_one, h]
 exact rise_snoc _ _
theorem fr3_base {w : World} {B B2 n : Nat} {V : Value} {L : List F3} (h : Fr3 w B2 V n L) (hB : B ≤ B2) : Fr3 w B V n L := by
 obtain ⟨h0, h3 | ⟨g, cap, cur, e1, e2, e3⟩⟩ := h
 ·
  exact ⟨h0, .inl h3⟩
 ·
  exact ⟨h0, .inr ⟨g, cap, cur, e1, by omega, e3⟩⟩
section
variable {P : Program} {w : World}
theorem run_append_nought (base : Nat) (t ty e : TypeId) (i : TypeInfo) (size : Nat) (ht : P.underlying t = some (.slice e)) (hi : P.info? e = some i)
  (v : Value) (n : Nat) (xs : List Value) (hown : w.ownsRow base e size v n xs) (A : Option Addr) (c : Nat) :
  (Builtin.append_ #[t, t] ty #[v, .slice A 0 c]).run P w = .ok v w := by
 have hlc : ∀ a : Addr, (loadCells a 0).run P w = .ok #[] w := fun a => by simp [loadCells, loadCellsFrom]
 rcases hown.2 with ⟨rfl, rfl⟩ | ⟨g, cap, cur, rfl, _, _, hnc, _⟩
 ·
  cases A <;> simp [Builtin.append_, run_underlying ht, sizeOf, typeInfo, hi, Builtin.lenOf, Builtin.firstCells, hlc, Result.andThen]
 ·
  cases A <;> simp [Builtin.append_, run_underlying ht, sizeOf, typeInfo, hi, Builtin.lenOf, Builtin.firstCells, hlc, hnc, storeCells, Result.andThen]
end
theorem fr3_apps {P : Program} {ops : Array Oper} {rest : List Oper} {o : Oper} {a : Act} {Q : Exit → Act → World → Prop} (w : World) (hgd : o.guard = none) (s x : Operand) (t : TypeId)
  (ho : o.op = .call { callee := .builtin .append, args := #[s, x], argTypes := #[t, t] }) (ht : P.underlying t = some (.slice 92)) (hinf : (P.info? 92).map (fun i => (i.zero, i.size, i.bytes)) = some (some (.agg #[.int .i64 0, .int .i64 0, .string ⟨#[]⟩]), 3, 32))
  (B : Nat) (V : Value) (n : Nat) (L : List F3) (hs : a.eval s = V) (h : Fr3 w B V n L) (A : Option Addr) (m c : Nat) (M : List F3) (hm : M.length = m) (hx : a.eval x = .slice A m c) (hM : 0 < m → ∃ ad, A = some ad ∧ ∀ j u, (encL M)[j]? = some u → w.cell? (ad.add j) = some u) (hn : n + m ≤ 1000000) (hB : B ≤ w.heap.size)
  (hK : ∀ V' w', Fr3 w' B V' (n + m) (L ++ M) → w.grownBy w' V.ownBlock → wpList P ops Q rest (a.put o.dst V') w') : wpList P ops Q (o :: rest) a w := by
 rcases Nat.eq_zero_or_pos m with h0 | h0
 ·
  subst h0; obtain rfl : M = [] := List.eq_nil_of_length_eq_zero hm; obtain ⟨i, hi, hz, hsz, hby⟩ := info_of hinf; have hr := run_append_nought (P := P) (w := w) B t o.type 92 i 3 ht hi V n (encL L) h A c
  refine wpList_plain hgd fun K hK2 => ?_
  unfold Oper.wp execOp
  simp only [ho, resolve, invoke, builtin, Sem.run_bind, Sem.run_pure, Result.andThen_ok, List.map_toArray, List.map_cons, List.map_nil, hs, hx, hr]; have := hK V w (by rw [List.append_nil]; exact h) (World.grownBy.refl w _)
  first
   | exact hK2 _ _ this
   | (simp [Result.andThen]; exact hK2 _ _ this)
 ·
  obtain ⟨ad, rfl, hc⟩ := hM h0
  exact fr3_app w hgd s x t ho ht hinf B V n L hs h ad m c M hm hx hc hn hB hK
def cutK (A : Option Addr) (cap k : Nat) : Option Addr := if cap = k then A else A.map fun p => p.add (k * 3)
theorem fcut_from (A : Option Addr) (n cap k : Nat) (hk : k ≤ n) (W : World) : (Instr.sliceAt 85 (.slice A n cap) (some (.int .i64 (k : Int))) none none).run Tryz.prog W = .ok (.slice (cutK A cap k) (n - k) (cap - k)) W := by
 rw [run_sliceAt_slice W 85 _ _ _ _ (by exact Tryz.underlying85), run_slice_l W 85 _ _ _ (by exact Tryz.underlying85) _ _ (by omega) (by omega)]; have e : Tryz.prog.elem 85 = 92 := by kernel_rfl
 have e2 : (sizeOf 92).run Tryz.prog W = .ok 3 W := by kernel_rfl
 rw [e, e2]; simp only [Result.andThen, sliced, Int.toNat_natCast, cutK]
theorem fcut_to (A : Option Addr) (n cap k : Nat) (hk : k ≤ cap) (W : World) : (Instr.sliceAt 85 (.slice A n cap) none (some (.int .i64 (k : Int))) none).run Tryz.prog W = .ok (.slice A k cap) W := by
 rw [run_sliceAt_slice W 85 _ _ _ _ (by exact Tryz.underlying85), run_slice_h W 85 _ _ _ (by exact Tryz.underlying85) _ _ (by omega) (by omega)]; have e : Tryz.prog.elem 85 = 92 := by kernel_rfl
 have e2 : (sizeOf 92).run Tryz.prog W = .ok 3 W := by kernel_rfl
 rw [e, e2]; simp only [Result.andThen, sliced, Int.toNat_natCast, Nat.zero_mul, Nat.sub_zero]
 congr 2
 by_cases h : cap = 0
 ·
  rw [if_pos h]
 ·
  rw [if_neg h]
  cases A <;> rfl
theorem fv_from {w : World} {A : Option Addr} {cap b off : Nat} {L : List F3} (h : Fv w A cap b off L) (k : Nat) (hk : k ≤ L.length) (h0 : 0 < L.length - k) : ∃ ad, cutK A cap k = some ad ∧ ∀ j u, (encL (L.drop k))[j]? = some u → w.cell? (ad.add j) = some u := by
 obtain ⟨f, hf⟩ : ∃ f, L[0]? = some f := ⟨L[0]'(by omega), List.getElem?_eq_getElem _⟩; have hA := (h.2 0 f hf).1; have hc := h.1; refine ⟨⟨b, off + k * 3, none⟩, ?_, fv_cells h k⟩
 unfold cutK
 rw [if_neg (by omega), hA]
 simp [add_plain]
theorem fv_to {w : World} {A : Option Addr} {cap b off : Nat} {L : List F3} (h : Fv w A cap b off L) (k : Nat) (hk : k ≤ L.length) (h0 : 0 < k) : ∃ ad, A = some ad ∧ ∀ j u, (encL (L.take k))[j]? = some u → w.cell? (ad.add j) = some u := by
 obtain ⟨f, hf⟩ : ∃ f, L[0]? = some f := ⟨L[0]'(by omega), List.getElem?_eq_getElem _⟩; refine ⟨⟨b, off, none⟩, (h.2 0 f hf).1, cells_take k ?_⟩; have := fv_cells h 0
 rwa [Nat.zero_mul, Nat.add_zero, List.drop_zero] at this
theorem rise_any {w : World} {A : Option Addr} {cap b off : Nat} {L : List F3} (h : Fv w A cap b off L) (n : Nat) (hn : L.length = n) (hs : n ≤ 1000) : Calls Tryz.prog 104 #[.slice A n cap] w fun e w' => ∃ V, e = .returned V ∧ Fr3 w' w.heap.size V (rise L).length (rise L) ∧ Below w.heap.size w w' := by
  have H := Zh h; have HN := Zh hn; obtain ⟨B, hB⟩ : ∃ B, w.heap.size = B := ⟨_, rfl⟩; have HBB := Zh hB; have HRL := Zh (fun i => (show (rise (L.take i)).length ≤ 1000 from by have := rise_length_le (L.take i); rw [List.length_take] at this; omega)); obtain ⟨R, hR⟩ : ∃ R, rise L = R := ⟨_, rfl⟩; have HR := Zh hR; rw [hR, hB]; clear h hn hR hB
  go_enter Tryz.func104, Tryz.ntmps104
  go_wp2_with fail
  go_loopw [3, 4] (fun o i wr => ∃ q : Nat, q ≤ n ∧ i = .int .i64 (q : Int) ∧ Fr3 wr B o (rise (L.take q)).length (rise (L.take q)) ∧ Below B w wr) (fun _ i _ => n - (intOf i).toNat)
  case atStart => exact ⟨0, Nat.zero_le _, rfl, ⟨rfl, .inl ⟨rfl, rfl⟩⟩, HBB.out ▸ Below.refl _ _⟩
  case round =>
    obtain ⟨q, hq, rfl, hrow, hb⟩ := hrel; obtain ⟨O, hO⟩ : ∃ O, rise (L.take q) = O := ⟨_, rfl⟩; have hOl := HRL.out q; rw [hO] at hrow hOl; obtain ⟨m, hm⟩ : ∃ m, O.length = m := ⟨_, rfl⟩; rw [hm] at hrow hOl; obtain ⟨Ao, co, go, rfl, hfo⟩ := fr3_fv hrow hm; have HO := Zh hO; have HM := Zh hm; have HROW := Zh hrow; have HFO := Zh hfo; have HB := Zh hb; have HBs := Zh (show B ≤ wr.heap.size from by have h1 := hb.size; have h2 := HBB.out; omega); have hmI : (m : Int) ≤ 1000 := by omega
    clear hO hm hrow hfo hb
    by_cases hql : q < n
    · obtain ⟨f, hf⟩ : ∃ f, L[q]? = some f := ⟨L[q]'(by rw [HN.out]; exact hql), List.getElem?_eq_getElem _⟩
      obtain ⟨rfl, _, a0, a1, a2⟩ := (H.out.below (HBB.out ▸ HB.out)).2 q f hf; have HF := Zh hf; have HST := Zh (rise_step hf); rw [HO.out] at HST; have HH := Zh (has_any HFO.out m HM.out (by omega) f); obtain ⟨f1, f2, f3⟩ := f; simp only at a0 a1 a2 HH; have hqI : (q : Int) < (n : Int) := by omega
      obtain ⟨r, hr⟩ : ∃ r, hasF (f1, f2, f3) O = r := ⟨_, rfl⟩; rw [hr] at HH; have HHR := Zh hr; clear hf hr
      go_wp2_with fail
      refine HH.out.mono ?_; rintro _ w1 ⟨rfl, hb⟩; have HBh := Zh hb; have HB1 := Zh (HB.out.trans (hb.mono HBs.out)); have HS1 := Zh (Nat.le_trans HBs.out hb.size); clear hb a0 a1 a2
      cases r with
      | true =>
        have HE := Zh (show rise (L.take (q + 1)) = O from by rw [HST.out]; unfold insF; rw [HHR.out, if_pos rfl])
        go_wp2
        go_roundw
        case rel => exact ⟨q + 1, by omega, by go_num, by rw [HE.out, HM.out]; exact fr3_keep HROW.out (fun j _ hj => HBh.out.block j hj), HB1.out⟩
        case measure => simp [intOf]; omega
      | false =>
        have HF1 := Zh (HFO.out.below HBh.out); have HR1 := Zh (fr3_keep HROW.out (fun j _ hj => HBh.out.block j hj))
        go_wp2_with fail
        have HSTR := Zh (show Str O from HO.out ▸ rise_str _)
        go_loopw [5] (fun k wr => ∃ j : Nat, j ≤ m ∧ k = .int .i64 (j : Int) ∧ (∀ (i : Nat) (g : F3), i < j → O[i]? = some g → ltF g (f1, f2, f3) = true) ∧ Below w1.heap.size w1 wr) (fun k _ => m - (intOf k).toNat)
        case atStart => exact ⟨0, Nat.zero_le _, rfl, fun i g hi => absurd hi (Nat.not_lt_zero _), Below.refl _ _⟩
        case round =>
          obtain ⟨j, hj, rfl, hlt, hb⟩ := hrel; have HLT := Zh hlt; have HB2 := Zh hb; clear hlt hb; obtain ⟨_, _, a0, a1, a2⟩ := (H.out.below (HBB.out ▸ (HB1.out.trans (HB2.out.mono HS1.out)))).2 q (f1, f2, f3) HF.out; simp only at a0 a1 a2
          by_cases hjm : j < m
          · obtain ⟨g, hg⟩ : ∃ g, O[j]? = some g := ⟨O[j]'(by rw [HM.out]; exact hjm), List.getElem?_eq_getElem _⟩
            obtain ⟨rfl, _, d0, d1, d2⟩ := (HF1.out.below HB2.out).2 j g hg; have HGJ := Zh hg; obtain ⟨g1, g2, g3⟩ := g; simp only [Nat.zero_add] at d0 d1 d2; have hjI : (j : Int) < (m : Int) := by omega
            obtain ⟨rr, hrr⟩ : ∃ r, ltF (g1, g2, g3) (f1, f2, f3) = r := ⟨_, rfl⟩; have HRR := Zh hrr; have HLS := Zh (fun v => (show Calls Tryz.prog 125 #[.agg #[.int .i64 g1, .int .i64 g2, .string g3], .agg #[.int .i64 f1, .int .i64 f2, .string f3]] v fun e w' => e = .returned (.bool rr) ∧ Below v.heap.size v w' from hrr ▸ frless_any g1 g2 g3 f1 f2 f3 v)); have hb2 := fun (W : World) (h : Below wr.heap.size wr W) => (show W.cell? ⟨go, j * 3, none⟩ = some (.int .i64 g1) ∧ W.cell? ⟨go, j * 3 + 1, none⟩ = some (.int .i64 g2) ∧ W.cell? ⟨go, j * 3 + 2, none⟩ = some (.string g3) ∧ W.cell? ⟨b, off + q * 3, none⟩ = some (.int .i64 f1) ∧ W.cell? ⟨b, off + q * 3 + 1, none⟩ = some (.int .i64 f2) ∧ W.cell? ⟨b, off + q * 3 + 2, none⟩ = some (.string f3) from by
              obtain ⟨_, _, x0, x1, x2⟩ := ((HF1.out.below HB2.out).below h).2 j _ HGJ.out; obtain ⟨_, _, x3, x4, x5⟩ := (H.out.below (HBB.out ▸ ((HB1.out.trans (HB2.out.mono HS1.out)).trans (h.mono (by have := HB2.out.size; have := HS1.out; omega))))).2 q _ HF.out; simp only [Nat.zero_add] at x0 x1 x2
              exact ⟨x0, x1, x2, x3, x4, x5⟩)
            have HS := Zh hb2; clear hg hrr hb2 a0 a1 a2 d0 d1 d2
            go_wp2_with fail
            go_region_held3 (fun W => W.cell? ⟨go, j * 3, none⟩ = some (.int .i64 g1) ∧ W.cell? ⟨go, j * 3 + 1, none⟩ = some (.int .i64 g2) ∧ W.cell? ⟨go, j * 3 + 2, none⟩ = some (.string g3) ∧ W.cell? ⟨b, off + q * 3, none⟩ = some (.int .i64 f1) ∧ W.cell? ⟨b, off + q * 3 + 1, none⟩ = some (.int .i64 f2) ∧ W.cell? ⟨b, off + q * 3 + 2, none⟩ = some (.string f3)) (first | exact HS.out _ ⟨rfl, rfl, rfl, Nat.le_refl _, fun _ _ => rfl⟩ | exact HS.out _ HX3.out) (first
              | (go_at_call 125; (with_reducible refine (HLS.out _).mono ?_); rintro _ w3 ⟨rfl, hb⟩; have HX3 := Zh (show Below wr.heap.size wr w3 from ⟨hb.os, hb.tape, hb.output, hb.size, hb.block⟩); clear hb)
              | fail)
            have HB3 := Zh (HB2.out.trans (HX3.out.mono HB2.out.size))
            cases rr with
            | true =>
              have HLT2 := Zh (show ∀ (i : Nat) (g : F3), i < j + 1 → O[i]? = some g → ltF g (f1, f2, f3) = true from fun i g hi hg => by
                by_cases e : i = j
                · rw [e, HGJ.out] at hg
                  rw [← Option.some.inj hg]
                  exact HRR.out
                · exact HLT.out i g (by omega) hg)
              go_wp2_with fail
              go_roundw
              case rel => exact ⟨j + 1, by omega, by go_num, HLT2.out, HB3.out⟩
              case measure => simp [intOf]; omega
            | false =>
              have HIN := Zh (ins_at (f := (f1, f2, f3)) (k := j) HSTR.out HHR.out (by rw [HM.out]; exact hj) HLT.out (fun g hg => by rw [HGJ.out] at hg; rw [← Option.some.inj hg]; exact HRR.out)); have hct := fun W => fcut_to (some ⟨go, 0, none⟩) m co j (by have := HF1.out.1; have := HM.out; omega) W
              have hcf := fun W => fcut_from (some ⟨go, 0, none⟩) m co j hj W
              obtain ⟨TA, hTA⟩ : ∃ T, cutK (some ⟨go, 0, none⟩) co j = T := ⟨_, rfl⟩; have HFF := Zh (fun (W : World) (h : Below w1.heap.size w1 W) => fv_from (HF1.out.below h) j (by rw [HM.out]; exact hj)); rw [hTA] at HFF; simp only [hTA] at hcf; have HFT := Zh (fun (W : World) (h : Below w1.heap.size w1 W) => fv_to (HF1.out.below h) j (by rw [HM.out]; exact hj)); obtain ⟨C, hC⟩ : ∃ C, w3.heap.size = C := ⟨_, rfl⟩; have HCC := Zh hC; have HCB := Zh (show w1.heap.size ≤ C from by have := HB3.out.size; omega); have HTL := Zh (show (O.take j).length = j from by rw [List.length_take, HM.out]; omega); have HDL := Zh (show (O.drop j).length = m - j from by rw [List.length_drop, HM.out]); clear hC hTA
              go_wp2_with (first
                | (at_builtin
                   refine fr3_apps _ rfl (.tmp 48) (.tmp 51) 85 rfl Tryz.underlying85 info36 C _ (j + 1) (O.take j ++ [(f1, f2, f3)]) rfl HR7.out TA (m - j) _ (O.drop j) HDL.out rfl (fun h0 => HFF.out _ HK7.out (by rw [HM.out]; exact h0)) (by omega) (by have := HK7.out.size; have := HCC.out; have := HG7.out; omega) ?_; intro V8 w8 hown hgr; have HR8 := Zh hown; have HK8 := Zh (HK7.out.grown hgr HK7.out.size (fun k e => by have := (HR7.out.lt k e).1; have := HCB.out; omega))
                   clear hown hgr)
                | (at_builtin
                   (try rw [hW6])
                   refine fr3_push _ rfl (.tmp 41) (.tmp 46) 85 rfl Tryz.underlying85 info36 C _ j (O.take j) rfl HR6.out w5.heap.size (f1, f2, f3) rfl HY6.out (by omega) (by have := HK6.out.size; have := HCC.out; have := HG6.out; omega) ?_; intro V7 w7 hown hgr; have HR7 := Zh hown; have HK7 := Zh (HK6.out.grown hgr HK6.out.size (fun k e => by have := (HR6.out.lt k e).1; have := HCB.out; omega)); have HG7 := Zh (Nat.le_trans HG6.out hgr.size)
                   clear hown hgr hW6)
                | (at_builtin
                   refine fr3_apps _ rfl (.tmp 36) (.tmp 39) 85 rfl Tryz.underlying85 info36 C _ 0 [] rfl ⟨rfl, .inl ⟨rfl, rfl⟩⟩ (some ⟨go, 0, none⟩) j _ (O.take j) HTL.out rfl (fun h0 => HFT.out _ HB3.out h0) (by omega) (by have := HCC.out; omega) ?_; intro V5 w5 hown hgr; have HR5 := Zh (show Fr3 w5 C V5 j (O.take j) from by have := hown; rw [Nat.zero_add, List.nil_append] at this; exact this); have HK5 := Zh (show Below w1.heap.size w1 w5 from HB3.out.grown hgr HB3.out.size (fun k e => by cases e)); have HG5 := Zh (show C ≤ w5.heap.size from by have := hgr.size; have := HCC.out; omega); obtain ⟨_, _, a0, a1, a2⟩ := (H.out.below (HBB.out ▸ (HB1.out.trans (HK5.out.mono HS1.out)))).2 q (f1, f2, f3) HF.out; simp only at a0 a1 a2; obtain ⟨W6, hW6⟩ : ∃ W6, w5.alloc (.cells #[.int .i64 f1, .int .i64 f2, .string f3] 92) = W6 := ⟨_, rfl⟩; have HY6 := Zh (show Blk W6 w5.heap.size 92 #[.int .i64 f1, .int .i64 f2, .string f3] from hW6 ▸ Blk.new w5 92 _); have HR6 := Zh (show Fr3 W6 C V5 j (O.take j) from hW6 ▸ World.ownsRow.alloc HR5.out _); have HK6 := Zh (show Below w1.heap.size w1 W6 from hW6 ▸ HK5.out.alloc HK5.out.size _)
                   have HG6 := Lib.hid (show C ≤ W6.heap.size from by have h1 : w5.heap.size ≤ W6.heap.size := by rw [← hW6]; simp
                                                                      have := HG5.out; omega)
                   clear hown hgr)
                | fail)
              have HE := Zh (show rise (L.take (q + 1)) = O.take j ++ [(f1, f2, f3)] ++ O.drop j from by rw [HST.out, HIN.out]); have HR9 := Zh (show Fr3 w8 B V8 (rise (L.take (q + 1))).length (rise (L.take (q + 1))) from by
                rw [HE.out]; have hl : (O.take j ++ [(f1, f2, f3)] ++ O.drop j).length = j + 1 + (m - j) := by rw [List.length_append, List.length_append, HTL.out, HDL.out]; rfl
                rw [hl]
                exact fr3_base HR8.out (by have := HCB.out; have := HS1.out; omega))
              go_wp2_with fail
              go_roundw
              case rel => exact ⟨q + 1, by omega, by go_num, HR9.out, HB1.out.trans (HK8.out.mono HS1.out)⟩
              case measure => simp [intOf]; omega
          · have hz : ¬ (j : Int) < (m : Int) := by omega
            clear a0 a1 a2
            go_wp2_with fail
            go_quiet (fail)
            have hbw : Below w1.heap.size w1 (wr.drewN nq) := ⟨HB2.out.os, HB2.out.tape, HB2.out.output, HB2.out.size, HB2.out.block⟩; obtain ⟨wz, hwz⟩ : ∃ wz, wr.drewN nq = wz := ⟨_, rfl⟩; rw [hwz] at hbw ⊢; have HBW := Zh hbw; clear hbw hwz hz; have HIN := Zh (ins_at (f := (f1, f2, f3)) (k := j) HSTR.out HHR.out (by rw [HM.out]; exact hj) HLT.out (fun g hg => by have := (List.getElem?_eq_some_iff.1 hg).1; have := HM.out; omega)); have hct := fun W => fcut_to Ao m co j (by have := HF1.out.1; have := HM.out; omega) W
            have hcf := fun W => fcut_from Ao m co j hj W
            obtain ⟨TA, hTA⟩ : ∃ T, cutK Ao co j = T := ⟨_, rfl⟩; have HFF := Zh (fun (W : World) (h : Below w1.heap.size w1 W) => fv_from (HF1.out.below h) j (by rw [HM.out]; exact hj)); rw [hTA] at HFF; simp only [hTA] at hcf; have HFT := Zh (fun (W : World) (h : Below w1.heap.size w1 W) => fv_to (HF1.out.below h) j (by rw [HM.out]; exact hj)); obtain ⟨C, hC⟩ : ∃ C, wz.heap.size = C := ⟨_, rfl⟩; have HCC := Zh hC; have HCB := Zh (show w1.heap.size ≤ C from by have := HBW.out.size; omega); have HTL := Zh (show (O.take j).length = j from by rw [List.length_take, HM.out]; omega); have HDL := Zh (show (O.drop j).length = m - j from by rw [List.length_drop, HM.out]); clear hC hTA
            go_wp2_with (first
              | (at_builtin
                 refine fr3_apps _ rfl (.tmp 48) (.tmp 51) 85 rfl Tryz.underlying85 info36 C _ (j + 1) (O.take j ++ [(f1, f2, f3)]) rfl HR7.out TA (m - j) _ (O.drop j) HDL.out rfl (fun h0 => HFF.out _ HK7.out (by rw [HM.out]; exact h0)) (by omega) (by have := HK7.out.size; have := HCC.out; have := HG7.out; omega) ?_; intro V8 w8 hown hgr; have HR8 := Zh hown; have HK8 := Zh (HK7.out.grown hgr HK7.out.size (fun k e => by have := (HR7.out.lt k e).1; have := HCB.out; omega))
                 clear hown hgr)
              | (at_builtin
                 (try rw [hW6])
                 refine fr3_push _ rfl (.tmp 41) (.tmp 46) 85 rfl Tryz.underlying85 info36 C _ j (O.take j) rfl HR6.out w5.heap.size (f1, f2, f3) rfl HY6.out (by omega) (by have := HK6.out.size; have := HCC.out; have := HG6.out; omega) ?_; intro V7 w7 hown hgr; have HR7 := Zh hown; have HK7 := Zh (HK6.out.grown hgr HK6.out.size (fun k e => by have := (HR6.out.lt k e).1; have := HCB.out; omega)); have HG7 := Zh (Nat.le_trans HG6.out hgr.size)
                 clear hown hgr hW6)
              | (at_builtin
                 refine fr3_apps _ rfl (.tmp 36) (.tmp 39) 85 rfl Tryz.underlying85 info36 C _ 0 [] rfl ⟨rfl, .inl ⟨rfl, rfl⟩⟩ Ao j _ (O.take j) HTL.out rfl (fun h0 => HFT.out _ HBW.out h0) (by omega) (by have := HCC.out; omega) ?_; intro V5 w5 hown hgr; have HR5 := Zh (show Fr3 w5 C V5 j (O.take j) from by have := hown; rw [Nat.zero_add, List.nil_append] at this; exact this); have HK5 := Zh (show Below w1.heap.size w1 w5 from HBW.out.grown hgr HBW.out.size (fun k e => by cases e)); have HG5 := Zh (show C ≤ w5.heap.size from by have := hgr.size; have := HCC.out; omega); obtain ⟨_, _, a0, a1, a2⟩ := (H.out.below (HBB.out ▸ (HB1.out.trans (HK5.out.mono HS1.out)))).2 q (f1, f2, f3) HF.out; simp only at a0 a1 a2; obtain ⟨W6, hW6⟩ : ∃ W6, w5.alloc (.cells #[.int .i64 f1, .int .i64 f2, .string f3] 92) = W6 := ⟨_, rfl⟩; have HY6 := Zh (show Blk W6 w5.heap.size 92 #[.int .i64 f1, .int .i64 f2, .string f3] from hW6 ▸ Blk.new w5 92 _); have HR6 := Zh (show Fr3 W6 C V5 j (O.take j) from hW6 ▸ World.ownsRow.alloc HR5.out _); have HK6 := Zh (show Below w1.heap.size w1 W6 from hW6 ▸ HK5.out.alloc HK5.out.size _)
                 have HG6 := Lib.hid (show C ≤ W6.heap.size from by have h1 : w5.heap.size ≤ W6.heap.size := by rw [← hW6]; simp
                                                                    have := HG5.out; omega)
                 clear hown hgr)
              | fail)
            have HE := Zh (show rise (L.take (q + 1)) = O.take j ++ [(f1, f2, f3)] ++ O.drop j from by rw [HST.out, HIN.out]); have HR9 := Zh (show Fr3 w8 B V8 (rise (L.take (q + 1))).length (rise (L.take (q + 1))) from by
              rw [HE.out]; have hl : (O.take j ++ [(f1, f2, f3)] ++ O.drop j).length = j + 1 + (m - j) := by rw [List.length_append, List.length_append, HTL.out, HDL.out]; rfl
              rw [hl]
              exact fr3_base HR8.out (by have := HCB.out; have := HS1.out; omega))
            go_wp2_with fail
            go_roundw
            case rel => exact ⟨q + 1, by omega, by go_num, HR9.out, HB1.out.trans (HK8.out.mono HS1.out)⟩
            case measure => simp [intOf]; omega
    · obtain rfl : q = n := by omega
      clear hql
      go_wp2
      go_ret
      refine ⟨_, rfl, ?_, HB.out⟩; have e : R = O := by rw [← HR.out, ← HO.out, ← HN.out, List.take_length]
      rw [e, HM.out]
      exact HROW.out
def lnT (L : List F3) (i : Nat) : ByteArray := ⟨(lnL L i).toArray⟩
theorem lnT_step {L : List F3} {i : Nat} {f : F3} (h : L[i]? = some f) : lnT L (i + 1) = lnT L i ++ (lineF f.1 f.2.1 f.2.2 ++ ⟨#[10]⟩) := by
 refine bs_ext ?_
 unfold lnT
 rw [lnL_step h]
 simp [ByteArray.data_append]
theorem lnT_size {C : Nat} {L : List F3} (h : ∀ f ∈ L, f.2.2.size + 11 ≤ C) (i : Nat) : (lnT L i).size ≤ i * C := by
 unfold lnT
 rw [size_bs]
 exact lnL_size h i
theorem rlines_any {w : World} {A : Option Addr} {cap b off : Nat} {L : List F3} (h : Fv w A cap b off L) (n : Nat) (hn : L.length = n) (hs : n ≤ 1000) (hv : ∀ f ∈ L, f.2.2.size ≤ 1000) : Calls Tryz.prog 93 #[.slice A n cap] w fun e w' => e = .returned (.string (txt L)) ∧ Below w.heap.size w w' := by
 have H := Zh h; have HN := Zh hn; have HV := Zh hv; have HSZ := Zh (lnT_size (C := 1011) (L := L) (fun f hf => by have := hv f hf; omega)); have HT : Hid (txt L = lnT L n) := Zh (by rw [← hn]; rfl); obtain ⟨tx, htx⟩ : ∃ tx, txt L = tx := ⟨_, rfl⟩; rw [htx] at HT ⊢; clear h hn hv htx
 go_enter Tryz.func93, Tryz.ntmps93
 go_wp2_with fail
 go_loopw [3, 4] (fun s i wr => ∃ q : Nat, q ≤ n ∧ i = .int .i64 (q : Int) ∧ s = .string (lnT L q) ∧ Below w.heap.size w wr) (fun _ i _ => n - (intOf i).toNat)
 case atStart => exact ⟨0, Nat.zero_le _, rfl, rfl, Below.refl _ _⟩
 case round =>
  obtain ⟨q, hq, rfl, rfl, hb⟩ := hrel; have HB := Zh hb; have hsz := HSZ.out q; clear hb
  by_cases hql : q < n
  ·
   obtain ⟨f, hf⟩ : ∃ f, L[q]? = some f := ⟨L[q]'(by rw [HN.out]; exact hql), List.getElem?_eq_getElem _⟩; obtain ⟨rfl, _, a0, a1, a2⟩ := (H.out.below HB.out).2 q f hf; have HST := Zh (lnT_step hf); have hvf := HV.out f (List.mem_of_getElem? hf); have hls := line_size f.1 f.2.1 f.2.2; have HLN := Zh (fun v => frline_any f.1 f.2.1 f.2.2 (by omega) v); obtain ⟨f1, f2, f3⟩ := f; simp only at a0 a1 a2 HST hvf hls HLN; obtain ⟨ln, hln⟩ : ∃ l, lineF f1 f2 f3 = l := ⟨_, rfl⟩; rw [hln] at HST hls HLN; obtain ⟨pre, hpre⟩ : ∃ l, lnT L q = l := ⟨_, rfl⟩; rw [hpre] at HST hsz ⊢; have hqI : (q : Int) < (n : Int) := by omega
   have hq1 : q * 1011 ≤ 1000 * 1011 := Nat.mul_le_mul_right _ (by omega); have k1 : ∀ W, (Op.stringOp .add ln ⟨#[10]⟩).run Tryz.prog W = .ok (.string (ln ++ ⟨#[10]⟩)) W := fun W => run_string_add_sum W _ _ (by show ln.size + 1 ≤ _; omega)
   have k2 : ∀ W, (Op.stringOp .add pre (ln ++ ⟨#[10]⟩)).run Tryz.prog W = .ok (.string (pre ++ (ln ++ ⟨#[10]⟩))) W := fun W => run_string_add_sum W _ _ (by rw [ByteArray.size_append]; show pre.size + (ln.size + 1) ≤ _; omega)
   clear hf hln hpre hvf hls hsz hq1
   go_wp2_with fail
   refine (HLN.out _).mono ?_; rintro _ w1 ⟨rfl, hb⟩; have HB1 := Zh (HB.out.trans (hb.mono HB.out.size)); clear hb
   go_wp2_with fail
   go_roundw
   case rel => exact ⟨q + 1, by omega, by go_num, by rw [HST.out], HB1.out⟩
   case measure => simp [intOf]; omega
  ·
   obtain rfl : q = n := by omega
   clear hql
   go_wp2
   go_ret
   exact ⟨by rw [HT.out]; rfl, HB.out⟩
end Go.Proofs.YtphijnkiiokieaaGreatDoor
