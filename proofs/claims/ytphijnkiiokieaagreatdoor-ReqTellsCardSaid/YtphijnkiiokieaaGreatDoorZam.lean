/- Texts of one proof, joined. -/
import Derived.Test.YtphijnkiiokieaaGreatDoorZal
import Derived.RangeFuncNested
import Derived.RangeFuncBound
import Derived.OwnWalkIn
import Derived.TacticsInMore
set_option linter.unusedVariables false
set_option linter.unusedSimpArgs false
set_option maxRecDepth 100000
set_option maxHeartbeats 80000000
namespace Go.Proofs.YtphijnkiiokieaaGreatDoor
open Go.RowKit
open Go.Lib hiding intOf
open Go.Sort Go.Proofs
theorem holds3 {w : World} {g o : Nat} {d : Array F3} (h : HoldsK encF 3 w g o d) {i : Nat} (hi : i < d.size) {x : F3} (hx : d[i]! = x) :
  w.cell? ⟨g, o + i * 3, none⟩ = some (.int .i64 x.1) ∧ w.cell? ⟨g, o + i * 3 + 1, none⟩ = some (.int .i64 x.2.1) ∧ w.cell? ⟨g, o + i * 3 + 2, none⟩ = some (.string x.2.2) ∧ w.frozen? ⟨g, o + i * 3, none⟩ = false ∧ w.frozen? ⟨g, o + i * 3 + 1, none⟩ = false ∧ w.frozen? ⟨g, o + i * 3 + 2, none⟩ = false := by
 have h0 := h.cell (c := 0) hi (by decide); have h1 := h.cell (c := 1) hi (by decide); have h2 := h.cell (c := 2) hi (by decide); rw [hx] at h0 h1 h2
 exact ⟨h0.1, h1.1, h2.1, h0.2, h1.2, h2.2⟩
theorem eqF_run (x y : F3) (w : World) : Sem.run Tryz.prog (binOp .eql 92 (.agg #[.int .i64 x.1, .int .i64 x.2.1, .string x.2.2]) (.agg #[.int .i64 y.1, .int .i64 y.2.1, .string y.2.2])) w = .ok (.bool (decide (x = y))) w := by
 obtain ⟨x1, x2, x3⟩ := x; obtain ⟨y1, y2, y3⟩ := y
 go_simp
 by_cases h1 : x1 = y1 <;> by_cases h2 : x2 = y2 <;> by_cases h3 : x3.toList = y3.toList
 all_goals (
  have e3 : x3 = y3 ↔ x3.toList = y3.toList := ⟨fun h => h ▸ rfl, fun h => bs_ext (by simp only [ByteArray.toList_eq] at h; exact h)⟩
  simp [h1, h2, h3, e3])
theorem neF_run (x y : F3) (w : World) : Sem.run Tryz.prog (binOp .neq 92 (.agg #[.int .i64 x.1, .int .i64 x.2.1, .string x.2.2]) (.agg #[.int .i64 y.1, .int .i64 y.2.1, .string y.2.2])) w = .ok (.bool (!decide (x = y))) w := by
 obtain ⟨x1, x2, x3⟩ := x; obtain ⟨y1, y2, y3⟩ := y
 go_simp
 by_cases h1 : x1 = y1 <;> by_cases h2 : x2 = y2 <;> by_cases h3 : x3.toList = y3.toList
 all_goals (
  have e3 : x3 = y3 ↔ x3.toList = y3.toList := ⟨fun h => h ▸ rfl, fun h => bs_ext (by simp only [ByteArray.toList_eq] at h; exact h)⟩
  simp [h1, h2, h3, e3])
abbrev z3 : F3 := (0, 0, ⟨#[]⟩)
theorem setMany_one (d : Array F3) (i : Nat) (x : F3) (hi : i < d.size) : setMany (flatK encF 3 d) (i * 3) (encF x) = flatK encF 3 (d.setIfInBounds i x) := by
 refine ext_get! (by simp) fun t ht => ?_
 have ht' : t < d.size * 3 := by simpa using ht
 rw [get_setMany _ _ _ t (by simpa using ht'), get_flatK _ _ _ t ht', get_flatK _ _ _ t (by simpa using ht')]
 show (if i * 3 ≤ t ∧ t < i * 3 + 3 then _ else _) = _
 have h3 : t / 3 < d.size := by omega
 by_cases h : t / 3 = i
 ·
  rw [if_pos (by omega), h, getElem!_set_same d i x hi]
  congr 1
  omega
 ·
  rw [if_neg (by omega), getElem!_set_other d i (t / 3) x (by omega)]
theorem set3_world {wr w : World} {g o m : Nat} {dk : Array F3} (hw : wr = putRowK encF 3 (Sort.ahead w m) g o dk) (q i : Nat) (hi : i < dk.size) (x1 x2 : Int) (x3 : ByteArray) :
  (((wr.drewN q).setCell ⟨g, o + i * 3, none⟩ (.int .i64 x1)).setCell ⟨g, o + i * 3 + 1, none⟩ (.int .i64 x2)).setCell ⟨g, o + i * 3 + 2, none⟩ (.string x3) = putRowK encF 3 (Sort.ahead w (m + q)) g o (dk.setIfInBounds i (x1, x2, x3)) := by
 subst hw; rw [putRowK_drewN]
 show (putRowK encF 3 (Sort.ahead w (m + q)) g o dk).setCells g (o + i * 3) (encF (x1, x2, x3)) = _
 unfold putRowK
 rw [setCells_putRow _ _ _ _ _ _ (by rw [size_flatK]; show i * 3 + 3 ≤ _; omega), setMany_one _ _ _ hi]
theorem cells3_world (w : World) (g o : Nat) : ∀ (xs : List F3) (d : Array F3) (k : Nat), k + xs.length ≤ d.size → (putRowK encF 3 w g o d).setCells g (o + k * 3) (encL xs) = putRowK encF 3 w g o (Lib.lay d k xs)
 | [], _, _, _ => rfl
 | x :: r, d, k, h => by
  have hl : k + (r.length + 1) ≤ d.size := by simpa using h
  have e : (putRowK encF 3 w g o d).setCells g (o + k * 3) (encF x) = putRowK encF 3 w g o (d.setIfInBounds k x) := by
   unfold putRowK
   rw [setCells_putRow _ _ _ _ _ _ (by rw [size_flatK]; show k * 3 + 3 ≤ _; omega), setMany_one _ _ _ (by omega)]
  have e2 : encL (x :: r) = encF x ++ encL r := by unfold encL; simp
  rw [e2]
  show ((putRowK encF 3 w g o d).setCells g (o + k * 3) (encF x)).setCells g (o + k * 3 + 3) (encL r) = _
  rw [e, show o + k * 3 + 3 = o + (k + 1) * 3 by omega, cells3_world w g o r _ (k + 1) (by simp; omega)]
  rfl
theorem zero_cells (n : Nat) : (Builtin.zeroCells #[.int .i64 0, .int .i64 0, .string ⟨#[]⟩] n).toList = encL (List.replicate n z3) := by
 apply List.ext_getElem?
 intro t; rw [encL_get]
 unfold Builtin.zeroCells
 by_cases ht : t < n * 3
 ·
  have h3 : t / 3 < n := by omega
  rw [List.getElem?_replicate, if_pos h3]; have h4 : t % 3 < 3 := Nat.mod_lt _ (by decide); rw [Array.getElem?_toList, Array.getElem?_map]; have : (Array.range (n * #[Value.int .i64 0, .int .i64 0, .string ⟨#[]⟩].size))[t]? = some t := by
   rw [Array.getElem?_range]; exact if_pos ht
  rw [this]
  show some (#[Value.int .i64 0, .int .i64 0, .string ⟨#[]⟩][t % 3]!) = _
  match t % 3, h4 with
  | 0, _ => rfl
  | 1, _ => rfl
  | 2, _ => rfl
 ·
  have h3 : ¬ t / 3 < n := by omega
  rw [List.getElem?_replicate, if_neg h3, List.getElem?_eq_none]
  simp
  show n * 3 ≤ t
  omega
theorem run_clear3 (w : World) (ty : TypeId) (g o n c : Nat) (hn : 0 < n) (hc : ∀ j, j < n * 3 → (w.cell? ⟨g, o + j, none⟩).isSome = true) (hf : ∀ j, j < n * 3 → w.frozen? ⟨g, o + j, none⟩ = false) :
  (Builtin.clear_ #[85] ty #[.slice (some ⟨g, o, none⟩) n c]).run Tryz.prog w = .ok (.tuple #[]) (w.setCells g o (encL (List.replicate n z3))) := by
 have hl : (encL (List.replicate n z3)).length = n * 3 := by rw [← zero_cells]; simp [Builtin.zeroCells]
 have hst := run_storeCells_cells (P := Tryz.prog) g o (encL (List.replicate n z3)) 0 w (by rw [hl]; simpa using hc) (by rw [hl]; simpa using hf) (by
  intro v hv
  unfold encL at hv
  rw [List.mem_flatten] at hv; obtain ⟨l, h1, h2⟩ := hv; rw [List.mem_map] at h1; obtain ⟨x, _, rfl⟩ := h1
  unfold encF at h2
  simp at h2
  rcases h2 with rfl | rfl | rfl <;> rfl)
 simp only [Nat.add_zero] at hst; obtain ⟨m, rfl⟩ : ∃ m, n = m + 1 := ⟨n - 1, by omega⟩; have hz := zero_cells (m + 1); have hv : ∀ w, (zeroValue 92).run Tryz.prog w = .ok (.agg #[.int .i64 0, .int .i64 0, .string ⟨#[]⟩]) w := Tryz.zeroValue92; have hcs : (Value.agg #[.int .i64 0, .int .i64 0, .string ⟨#[]⟩]).cells = #[.int .i64 0, .int .i64 0, .string ⟨#[]⟩] := rfl
 simp [Builtin.clear_, run_underlying Tryz.underlying85, hv, hcs, hz, hst]
theorem compact_row {w : World} {g o cap : Nat} {d : Array F3} (hH : HoldsK encF 3 w g o d) (hg : g < w.heap.size) (hsz : d.size ≤ 100000) (hcap : d.size ≤ cap) (hc2 : cap ≤ maxLen) :
  Calls Tryz.prog 114 #[.slice (some ⟨g, o, none⟩) d.size cap] w fun e w' => e = .returned (.slice (some ⟨g, o, none⟩) (compactUpTo d d.size).length cap) ∧ ∃ q, w' = putRowK encF 3 (Sort.ahead w q) g o (compactUpTo d d.size ++ List.replicate (d.size - (compactUpTo d d.size).length) z3).toArray := by
 have same : ∀ q, (∀ j, j < d.size → keeps d j = true) → (compactUpTo d d.size).length = d.size ∧ w.drewN q = putRowK encF 3 (Sort.ahead w q) g o (compactUpTo d d.size ++ List.replicate (d.size - (compactUpTo d d.size).length) z3).toArray := by
  intro q hall; have e : compactUpTo d d.size = d.toList := by rw [compactUpTo_all d _ hall, range_map_get]
  rw [e]; refine ⟨by simp, ?_⟩; simp only [Array.length_toList, Nat.sub_self, List.replicate_zero, List.append_nil, Array.toArray_toList]
  exact (putRowK_self encF 3 (Sort.ahead w q) g o d (holdsK_ahead encF 3 w q g o d hH)).symm
 have HS := Zh same; have HH := Zh hH; have hszI : (d.size : Int) ≤ 100000 := by omega
 clear same hH
 by_cases h2 : d.size < 2
 ·
  have h2I : (d.size : Int) < 2 := by omega
  go_enter Tryz.func114, Tryz.ntmps114
  go_wp2
  go_ret
  obtain ⟨e1, e2⟩ := HS.out 0 (fun j hj => keeps_lt_one d j (by omega))
  exact ⟨by rw [e1]; rfl, 0, e2⟩
 ·
  have h2I : ¬ (d.size : Int) < 2 := by omega
  go_enter Tryz.func114, Tryz.ntmps114
  go_wp2
  go_loopg [3] d.size (fun gg s3 wr => ∃ k q : Nat, 1 ≤ k ∧ k ≤ d.size ∧ d.size - k ≤ gg ∧ s3 = .int .i64 k ∧ wr = w.drewN q ∧ ∀ j, j < k → keeps d j = true)
  case atStart => exact ⟨1, 0, Nat.le_refl _, by omega, by omega, rfl, rfl, keeps_lt_one d⟩
  case round =>
   obtain ⟨k, q, hk1, hk, hgg, rfl, rfl, hall⟩ := hrel; have HA := Zh hall; clear hall
   by_cases hlt : k < d.size
   ·
    obtain ⟨p, hp⟩ : ∃ p, k = p + 1 := ⟨k - 1, by omega⟩; have HP := Zh hp; obtain ⟨⟨x1, x2, x3⟩, hx⟩ : ∃ x, d[k]! = x := ⟨_, rfl⟩; obtain ⟨⟨y1, y2, y3⟩, hy⟩ : ∃ x, d[p]! = x := ⟨_, rfl⟩; obtain ⟨wq, hwq⟩ : ∃ wq, w.drewN q = wq := ⟨_, rfl⟩; have hH2 : HoldsK encF 3 wq g o d := hwq ▸ HH.out; obtain ⟨a0, a1, a2, _, _, _⟩ := holds3 hH2 hlt hx; obtain ⟨b0, b1, b2, _, _, _⟩ := holds3 hH2 (show p < d.size by omega) hy; have HX := Zh hx; have HY := Zh hy; have HWQ := Zh hwq; have i1 : IntKind.i64.wrap ((k : Int) - 1) = (p : Int) := by rw [show (k : Int) - 1 = (p : Int) by omega]; exact IntWalk.i64_in _ (by omega)
    have l1 : (k : Int) < (d.size : Int) := by omega
    have l2 : (p : Int) < (d.size : Int) := by omega
    rw [hwq]; clear hH2 hx hy hp hwq
    by_cases hdup : ((x1, x2, x3) : F3) = (y1, y2, y3)
    ·
     have heq : ∀ wq, Sem.run Tryz.prog (binOp .eql 92 (.agg #[.int .i64 x1, .int .i64 x2, .string x3]) (.agg #[.int .i64 y1, .int .i64 y2, .string y3])) wq = .ok (.bool true) wq := fun wq => by have := eqF_run (x1, x2, x3) (y1, y2, y3) wq; rw [decide_eq_true hdup] at this; exact this
     go_wp2_with fail
     go_quiet (fail)
     go_wp2_with fail
     clear a0 a1 a2 b0 b1 b2 heq i1 l1 l2; have HDUP := Zh (show d[k]! = d[k - 1]! from by rw [HX.out, show k - 1 = p by have := HP.out; omega, HY.out]; exact hdup); clear hdup; have HQ := Zh (show wq.drewN nq = w.drewN (q + nq) from by rw [← HWQ.out, World.drewN_drewN]); obtain ⟨wz, hwz⟩ : ∃ wz, wq.drewN nq = wz := ⟨_, rfl⟩; rw [hwz] at HQ ⊢
     go_loopg [3, 5] d.size (fun gg s3 s5 wr => ∃ (kk k2 q2 : Nat) (dk : Array F3), s3 = .int .i64 kk ∧ s5 = .int .i64 k2 ∧ 1 ≤ k2 ∧ k + k2 ≤ d.size ∧ d.size - (k + k2) ≤ gg ∧ wr = putRowK encF 3 (Sort.ahead w q2) g o dk ∧ CompInv d (k + k2) kk dk)
     case atStart => exact ⟨k, 1, q + nq, d, rfl, rfl, Nat.le_refl _, by omega, by omega, by rw [HQ.out]; exact (putRowK_self encF 3 (Sort.ahead w (q + nq)) g o d (holdsK_ahead encF 3 w (q + nq) g o d HH.out)).symm, CompInv.start HA.out (keeps_neg (by omega) HDUP.out)⟩
     case round =>
      obtain ⟨kk, k2, q2, dk, rfl, rfl, h1, hle, hg2, hwr, hI⟩ := hrel; have hkk := hI.lt; have hds := hI.size; have hHk : HoldsK encF 3 wr g o dk := by rw [hwr]; exact holdsK_putRowK encF 3 _ g o d dk (holdsK_ahead encF 3 w q2 g o d HH.out) hds
      have W2 := Zh hwr; have I2 := Zh hI; clear hwr
      by_cases hlt2 : k + k2 < d.size
      ·
       obtain ⟨m2, hm2⟩ : ∃ m2, k2 = m2 + 1 := ⟨k2 - 1, by omega⟩; have HM2 := Zh hm2; obtain ⟨⟨u1, u2, u3⟩, hu⟩ : ∃ x, d[k + k2]! = x := ⟨_, rfl⟩; obtain ⟨⟨v1, v2, v3⟩, hv⟩ : ∃ x, d[k + m2]! = x := ⟨_, rfl⟩; obtain ⟨⟨z1, z2, z3⟩, hz⟩ : ∃ x, dk[kk]! = x := ⟨_, rfl⟩; obtain ⟨c0, c1, c2, _, _, _⟩ := holds3 hHk (show k + k2 < dk.size by omega) ((hI.high (k + k2) (by omega)).trans hu); obtain ⟨e0, e1, e2, _, _, _⟩ := holds3 hHk (show k + m2 < dk.size by omega) ((hI.high (k + m2) (by omega)).trans hv); obtain ⟨r0, r1, r2, f0, f1, f2⟩ := holds3 hHk (show kk < dk.size by omega) hz; rw [show o + (k + k2) * 3 = o + k * 3 + k2 * 3 by omega] at c0 c1 c2; rw [show o + (k + m2) * 3 = o + k * 3 + m2 * 3 by omega] at e0 e1 e2; have HU := Zh hu; have HV := Zh hv; have HHK := Zh hHk; have i1 : IntKind.i64.wrap ((k2 : Int) - 1) = (m2 : Int) := by rw [show (k2 : Int) - 1 = (m2 : Int) by omega]; exact IntWalk.i64_in _ (by omega)
       have l0 : (k2 : Int) < ((d.size - k : Nat) : Int) := by omega
       have l2 : (m2 : Int) < ((d.size - k : Nat) : Int) := by omega
       have l3 : (kk : Int) < (d.size : Int) := by omega
       clear hI hu hv hz hHk hm2
       by_cases huv : ((u1, u2, u3) : F3) = (v1, v2, v3)
       ·
        have heq : ∀ wq, Sem.run Tryz.prog (binOp .neq 92 (.agg #[.int .i64 u1, .int .i64 u2, .string u3]) (.agg #[.int .i64 v1, .int .i64 v2, .string v3])) wq = .ok (.bool false) wq := fun wq => by have := neF_run (u1, u2, u3) (v1, v2, v3) wq; rw [decide_eq_true huv] at this; exact this
        go_wp2_with fail
        go_quiet (fail)
        go_wp2
        go_roundg (d.size - (k + (k2 + 1)))
        case measure => omega
        case rel => exact ⟨kk, k2 + 1, q2 + nq, dk, rfl, by go_num, by omega, by omega, Nat.le_refl _, by rw [W2.out, putRowK_drewN], I2.out.skip (keeps_neg (by omega) (by rw [HU.out, show k + k2 - 1 = k + m2 by have := HM2.out; omega, HV.out]; exact huv))⟩
       ·
        have heq : ∀ wq, Sem.run Tryz.prog (binOp .neq 92 (.agg #[.int .i64 u1, .int .i64 u2, .string u3]) (.agg #[.int .i64 v1, .int .i64 v2, .string v3])) wq = .ok (.bool true) wq := fun wq => by have := neF_run (u1, u2, u3) (v1, v2, v3) wq; rw [decide_eq_false huv] at this; exact this
        go_wp2_with fail
        go_quiet (fail)
        go_wp2
        go_roundg (d.size - (k + (k2 + 1)))
        case measure => omega
        case rel => exact ⟨kk + 1, k2 + 1, q2 + nq, dk.setIfInBounds kk (u1, u2, u3), by go_num, by go_num, by omega, by omega, Nat.le_refl _, set3_world W2.out nq kk (by omega) u1 u2 u3, by have := I2.out.keep hlt2 (keeps_pos (by rw [HU.out, show k + k2 - 1 = k + m2 by have := HM2.out; omega, HV.out]; exact huv)); rwa [HU.out] at this⟩
      ·
       have hend : k + k2 = d.size := by omega
       have hcl : ∀ ty, (Builtin.clear_ #[85] ty #[.slice (some ⟨g, o + kk * 3, none⟩) (d.size - kk) (cap - kk)]).run Tryz.prog wr = .ok (.tuple #[]) (wr.setCells g (o + kk * 3) (encL (List.replicate (d.size - kk) z3))) :=
        fun ty => run_clear3 wr ty g (o + kk * 3) (d.size - kk) (cap - kk) (by omega)
         (fun j hj => by
          have := (hHk (kk * 3 + j) (by rw [size_flatK]; omega)).1
          rw [show o + kk * 3 + j = o + (kk * 3 + j) by omega, this]; rfl)
         (fun j hj => by
          rw [show o + kk * 3 + j = o + (kk * 3 + j) by omega]
          exact (hHk (kk * 3 + j) (by rw [size_flatK]; omega)).2)
       have l0 : ¬ (k2 : Int) < ((d.size - k : Nat) : Int) := by omega
       have l3 : (kk : Int) ≤ (d.size : Int) := by omega
       clear hHk hI
       go_wp2
       go_ret
       have hI := I2.out; rw [hend] at hI; refine ⟨by rw [hI.len]; rfl, q2, ?_⟩; rw [hI.len, ← hI.done z3, ← cells3_world _ g o _ dk kk (by simp; omega), ← W2.out]
    ·
     have heq : ∀ wq, Sem.run Tryz.prog (binOp .eql 92 (.agg #[.int .i64 x1, .int .i64 x2, .string x3]) (.agg #[.int .i64 y1, .int .i64 y2, .string y3])) wq = .ok (.bool false) wq := fun wq => by have := eqF_run (x1, x2, x3) (y1, y2, y3) wq; rw [decide_eq_false hdup] at this; exact this
     go_wp2_with fail
     go_quiet (fail)
     go_wp2
     go_roundg (d.size - (k + 1))
     case measure => omega
     case rel =>
      refine ⟨k + 1, q + nq, by omega, by omega, Nat.le_refl _, by go_num, by rw [← HWQ.out, World.drewN_drewN], fun j hj => ?_⟩
      by_cases e : j = k
      ·
       subst e
       exact keeps_pos (by rw [HX.out, show j - 1 = p by have := HP.out; omega, HY.out]; exact hdup)
      ·
       exact HA.out j (by omega)
   ·
    have hkn : k = d.size := by omega
    clear hlt; subst hkn
    go_wp2
    go_ret
    obtain ⟨e1, e2⟩ := HS.out q HA.out
    exact ⟨by rw [e1]; rfl, q, e2⟩
def cnt (k : Int) (L : List F3) : Nat := cntF k L L.length
def cnA (L : List F3) : List F3 := L.map fun f => (cn1 f).1
theorem cnL_all (L : List F3) : cnL L L.length = cnA L := by unfold cnL cnA; rw [List.take_length]
def txt (L : List F3) : ByteArray := ⟨(lnL L L.length).toArray⟩
def canO (own : List F3) : List F3 × Int :=
 if 12 < own.length then ([], 2) else if cnt 1 own ≠ 1 ∨ 1 < cnt 2 own ∨ 1 < cnt 5 own then ([], 1) else if 900 < (txt own).size then ([], 2) else (own, 0)
def canL (L : List F3) : List F3 × Int := if errL L ≠ 0 then ([], errL L) else canO (rise (cnA L))
theorem holds_fv {w : World} {g cap : Nat} {own rest : List F3} (h : HoldsK encF 3 w g 0 (own ++ rest).toArray) (hg : g < w.heap.size) (hc : own.length ≤ cap) : Fv w (some ⟨g, 0, none⟩) cap g 0 own := by
 refine ⟨hc, fun j f hj => ?_⟩; have hl := (List.getElem?_eq_some_iff.1 hj).1; have he := (List.getElem?_eq_some_iff.1 hj).2; have hx : (own ++ rest).toArray[j]! = f := by
  rw [getElem!_pos _ j (by simp; omega)]; simp only [List.getElem_toArray]; rw [List.getElem_append_left hl, he]
 obtain ⟨h0, h1, h2, _⟩ := holds3 h (by simp; omega) hx
 exact ⟨rfl, hg, h0, h1, h2⟩
theorem putK_grown (w : World) (g q : Nat) (dk : Array F3) : w.grownBy (putRowK encF 3 (Sort.ahead w q) g 0 dk) (some g) := by
 have := sortK_grown w g q dk #[]
 unfold sortWorldK at this
 rwa [grow_empty] at this
theorem fv_nil (w : World) (A : Option Addr) (cap b : Nat) : Fv w A cap b 0 [] := ⟨Nat.zero_le _, fun j f hj => by simp at hj⟩
theorem compact0 (A : Option Addr) (cap : Nat) (w : World) : Calls Tryz.prog 114 #[.slice A 0 cap] w fun e w' => e = .returned (.slice A 0 cap) ∧ w' = w := by
 go_enter Tryz.func114, Tryz.ntmps114
 go_wp2
 go_ret
 exact ⟨rfl, rfl⟩
theorem cn1_size (f : F3) : (cn1 f).1.2.2.size ≤ 64 := by
 unfold cn1
 split
 ·
  show 0 ≤ 64; omega
 ·
  split
  ·
   rename_i h; exact value_size f.1 f.2.2 h
  ·
   show 0 ≤ 64; omega
theorem cnA_size {L : List F3} : ∀ f ∈ rise (cnA L), f.2.2.size ≤ 64 := fun f hf => by
 rw [rise_mem] at hf; obtain ⟨x, _, rfl⟩ := List.mem_map.1 hf
 exact cn1_size x
theorem canL_err {L : List F3} {er : Int} (h : errL L = er) (he : er ≠ 0) : canL L = ([], er) := by unfold canL; rw [h, if_pos he]
theorem canL_ok {L : List F3} (h : errL L = 0) : canL L = canO (rise (cnA L)) := by unfold canL; rw [h, if_neg (by decide)]
theorem cnt_le (k : Int) (L : List F3) : cnt k L ≤ L.length := cntF_le k L _
theorem canon_any {w : World} {A : Option Addr} {cap b off : Nat} {L : List F3} (h : Fv w A cap b off L) (hn : L.length ≤ 1000) (hv : ∀ f ∈ L, f.2.2.size ≤ 1000000) (hE : Env w) :
  Calls Tryz.prog 101 #[.slice A L.length cap] w fun e w' => Below w.heap.size w w' ∧ ∃ A' cap' g, e = .returned (.tuple #[.slice A' (canL L).1.length cap', .int .i64 (canL L).2]) ∧ Fv w' A' cap' g 0 (canL L).1 := by
 have HC := Zh (canonFields_any h hn hv hE.t hE.m hE.d); have HE := Zh hE; have HCL := Zh (cnL_all L); obtain ⟨B, hB⟩ : ∃ B, w.heap.size = B := ⟨_, rfl⟩; have HBW := Zh hB; have HV := Zh (@cnA_size L); have HEr := Zh (fun er (h : errL L = er) (he : er ≠ 0) => canL_err h he); have HOk := Zh (@canL_ok L); have HNL := Zh (show (cnA L).length = L.length from by unfold cnA; rw [List.length_map]); have HRL := Zh (rise_length_le (cnA L)); obtain ⟨n, hnn⟩ : ∃ n, L.length = n := ⟨_, rfl⟩; have HN := Zh hnn; obtain ⟨rv, re, hres⟩ : ∃ rv re, canL L = (rv, re) := ⟨_, _, rfl⟩; have HRES := Zh hres; rw [hres]; obtain ⟨ca, hca⟩ : ∃ ca, cnA L = ca := ⟨_, rfl⟩; rw [hca] at HCL HV HOk HNL HRL; rw [hnn] at hn HC HNL HCL ⊢; rw [HCL.out] at HC; obtain ⟨er, her⟩ : ∃ er, errL L = er := ⟨_, rfl⟩; rw [her] at HC HOk; have HER := Zh her; rw [hB] at HC ⊢; clear h hv hE hB hnn hres hca her HCL
 show Calls Tryz.prog 101 _ w fun e w' => Below B w w' ∧ ∃ A' cap' g, e = .returned (.tuple #[.slice A' rv.length cap', .int .i64 re]) ∧ Fv w' A' cap' g 0 rv
 go_enter Tryz.func101, Tryz.ntmps101
 go_wp2_with fail
 refine HC.out.mono ?_; rintro e w1 ⟨hb, ⟨h0, V, rfl, hrow⟩ | ⟨h0, rfl⟩⟩
 ·
  have HB1 := Zh hb; have HR := Zh hrow; have HCO := Zh (HOk.out h0); have HS1 := Zh (show B ≤ w1.heap.size from by have h1 := hb.size; have h2 := HBW.out; omega); clear hb hrow h0
  by_cases hz : n = 0
  ·
   obtain ⟨A0, cap0, rfl⟩ : ∃ A0 cap0, V = .slice A0 0 cap0 := by
    obtain ⟨_, ⟨e, _⟩ | ⟨g, cap, cur, e, _⟩⟩ := HR.out
    ·
     exact ⟨_, _, e⟩
    ·
     rw [hz] at e; exact ⟨_, _, e⟩
   have HZ := Zh (show ca = [] from List.eq_nil_of_length_eq_zero (by have := HNL.out; omega)); have HRS := Zh (show (rv, re) = (([], 1) : List F3 × Int) from by rw [← HRES.out, HCO.out, HZ.out]; rfl); have HK := Zh (fun w => count_any (fv_nil w A0 cap0 0) (by decide) 1 0 rfl); simp only [List.length_nil] at HK; clear hz
   go_wp2_with (first
    | (go_at_call 112; refine (sort_none _ _ _ _).mono ?_; rintro _ w2 ⟨rfl, hw⟩; replace hw := hw.symm; subst hw)
    | (go_at_call 114; refine (compact0 _ _ _).mono ?_; rintro _ w2 ⟨rfl, hw⟩; replace hw := hw.symm; subst hw)
    | (go_at_call 115; refine (HK.out _).mono ?_; rintro _ w3 ⟨rfl, hb⟩; have HB3 := Zh (HB1.out.trans (hb.mono HS1.out)); clear hb)
    | fail)
   go_ret2
   obtain ⟨rfl, rfl⟩ := Prod.mk.inj HRS.out
   exact ⟨HB3.out, none, 0, 0, rfl, fv_nil _ _ _ _⟩
  ·
   have hnp : 0 < n := by omega
   obtain ⟨g, gc, rfl, hBg, hgl, hgc, hgm, hHo⟩ := holds_fr3 HR.out HNL.out hnp; have HSO := Zh (sort_row (cap := gc) hHo hgl hBg (by simp; have := HNL.out; omega)); have hd : ca.toArray.size = n := by simpa using HNL.out
   rw [hd] at HSO; have HD := Zh hd; have HGC := Zh (And.intro hgc (And.intro hgm hBg)); clear hz hnp hHo hgl hgc hgm hd
   go_wp2_with fail
   refine HSO.out.mono ?_; rintro _ w2 ⟨rfl, d2, hp, hs, hH2, hb, hg2⟩; have hds : d2.size = n := hp.1.trans HD.out; have hcm := sorted_compact (d := ca.toArray) (by rw [HD.out]; exact hp) (by rw [HD.out]; exact hs); have HCM := Zh (show compactUpTo d2 d2.size = rise ca from hcm); have HCR := Zh (compact_row (cap := gc) hH2 hg2 (by omega) (by have := HGC.out.1; omega) HGC.out.2.1); rw [HCM.out, hds] at HCR; have HB2 := Zh (HB1.out.trans hb); have HS2 := Zh (show B ≤ w2.heap.size from by have h1 := hb.size; have h2 := HS1.out; omega); have HG2 := Zh hg2; have HH2 := Zh hH2; have HDS := Zh hds; clear hp hs hH2 hb hg2 hds hcm
   go_wp2_with fail
   refine HCR.out.mono ?_; rintro _ w3 ⟨rfl, q, hw⟩; have hgr := putK_grown w2 g q (rise ca ++ List.replicate (n - (rise ca).length) z3).toArray; rw [← hw] at hgr; have HB3 := Zh (HB2.out.trans (grown_below hgr HGC.out.2.2 HS2.out)); have hown : (rise ca).length ≤ n := by have h1 := HRL.out; have h2 := HNL.out; omega
   have hH3 : HoldsK encF 3 w3 g 0 (rise ca ++ List.replicate (n - (rise ca).length) z3).toArray := by
    rw [hw]
    exact holdsK_putRowK encF 3 _ g 0 d2 _ (holdsK_ahead encF 3 w2 q g 0 d2 HH2.out) (by rw [HDS.out]; simp; omega)
   have hF3 : Fv w3 (some ⟨g, 0, none⟩) gc g 0 (rise ca) := holds_fv hH3 (Nat.lt_of_lt_of_le HG2.out hgr.size) (by have := HGC.out.1; omega); have HF3 := Zh hF3; have HVO := Zh HV.out; have HS3 := Zh (show B ≤ w3.heap.size from by have h1 := hgr.size; have h2 := HS2.out; omega); have HE3 := Zh (show Env w3 from HE.out.on (HBW.out ▸ HB3.out)); have HOW := Zh (show (rise ca).length ≤ 1000 from by omega); obtain ⟨own, hO⟩ : ∃ own, rise ca = own := ⟨_, rfl⟩; rw [hO] at HF3 HVO HOW HCO ⊢; clear hw hgr hown hH3 hF3 hO HCR HCM HV HRL HOk HH2; have HRS := Zh (show canO own = (rv, re) from by rw [← HRES.out, HCO.out]); obtain ⟨m, hm⟩ : ∃ m, own.length = m := ⟨_, rfl⟩; have HM := Zh hm; have hm1 : m ≤ 1000 := by have := HOW.out; omega
   by_cases h12 : 12 < m
   ·
    have h12I : (m : Int) > 12 := by omega
    have HR2 := Zh (show (rv, re) = (([], 2) : List F3 × Int) from by rw [← HRS.out]; unfold canO; rw [if_pos (by rw [HM.out]; exact h12)]); rw [hm]; clear hm h12
    go_wp2_with fail
    go_ret2
    obtain ⟨rfl, rfl⟩ := Prod.mk.inj HR2.out
    exact ⟨HB3.out, none, 0, 0, rfl, fv_nil _ _ _ _⟩
   ·
    have h12I : ¬ (m : Int) > 12 := by omega
    obtain ⟨k1, hk1⟩ : ∃ k, cnt 1 own = k := ⟨_, rfl⟩; obtain ⟨k2, hk2⟩ : ∃ k, cnt 2 own = k := ⟨_, rfl⟩; obtain ⟨k5, hk5⟩ : ∃ k, cnt 5 own = k := ⟨_, rfl⟩; have hl1 := cnt_le 1 own; have hl2 := cnt_le 2 own; have hl5 := cnt_le 5 own; rw [hk1, hm] at hl1; rw [hk2, hm] at hl2; rw [hk5, hm] at hl5; have HK1 := Zh (fun (v : World) (hf : Fv v (some ⟨g, 0, none⟩) gc g 0 own) => count_any hf (by have := HOW.out; omega) 1 k1 hk1); have HK2 := Zh (fun (v : World) (hf : Fv v (some ⟨g, 0, none⟩) gc g 0 own) => count_any hf (by have := HOW.out; omega) 2 k2 hk2); have HK5 := Zh (fun (v : World) (hf : Fv v (some ⟨g, 0, none⟩) gc g 0 own) => count_any hf (by have := HOW.out; omega) 5 k5 hk5); rw [hm] at HK1 HK2 HK5; have HCN := Zh (show canO own = if k1 ≠ 1 ∨ 1 < k2 ∨ 1 < k5 then ([], 1) else if 900 < (txt own).size then ([], 2) else (own, 0) from by unfold canO; rw [if_neg (by rw [HM.out]; exact h12), hk1, hk2, hk5]); have HLN := Zh (fun (v : World) (hf : Fv v (some ⟨g, 0, none⟩) gc g 0 own) (hE : Env v) => lines_any hf HOW.out (fun f hf => by have := HVO.out f hf; omega) hE.t hE.m hE.d); rw [hm] at HLN ⊢; clear hk1 hk2 hk5 hm h12
    by_cases h1 : k1 = 1
    ·
     have b1 : ((k1 : Int) != 1) = false := by simp; omega
     by_cases h2 : 1 < k2
     ·
      have b2 : (k2 : Int) > 1 := by omega
      have HR2 := Zh (show (rv, re) = (([], 1) : List F3 × Int) from by rw [← HRS.out, HCN.out, if_pos (.inr (.inl h2))]); clear h1 h2
      go_wp2_with (first
       | (go_at_call 115; (with_reducible refine (HK1.out _ HF3.out).mono ?_); rintro _ w4 ⟨rfl, hb⟩; have HF4 := Zh (HF3.out.below hb); have HB4 := Zh (HB3.out.trans (hb.mono HS3.out)); have HS4 := Zh (Nat.le_trans HS3.out hb.size); clear hb HK1)
       | (go_at_call 115; (with_reducible refine (HK2.out _ HF4.out).mono ?_); rintro _ w5 ⟨rfl, hb⟩; have HB5 := Zh (HB4.out.trans (hb.mono HS4.out)); clear hb)
       | fail)
      go_ret2
      obtain ⟨rfl, rfl⟩ := Prod.mk.inj HR2.out
      exact ⟨HB5.out, none, 0, 0, rfl, fv_nil _ _ _ _⟩
     ·
      have b2 : ¬ (k2 : Int) > 1 := by omega
      by_cases h5 : 1 < k5
      ·
       have b5 : (k5 : Int) > 1 := by omega
       have HR2 := Zh (show (rv, re) = (([], 1) : List F3 × Int) from by rw [← HRS.out, HCN.out, if_pos (.inr (.inr h5))]); clear h1 h2 h5
       go_wp2_with (first
        | (go_at_call 115; (with_reducible refine (HK1.out _ HF3.out).mono ?_); rintro _ w4 ⟨rfl, hb⟩; have HF4 := Zh (HF3.out.below hb); have HB4 := Zh (HB3.out.trans (hb.mono HS3.out)); have HS4 := Zh (Nat.le_trans HS3.out hb.size); clear hb HK1)
        | (go_at_call 115; (with_reducible refine (HK2.out _ HF4.out).mono ?_); rintro _ w5 ⟨rfl, hb⟩; have HF5 := Zh (HF4.out.below hb); have HB5 := Zh (HB4.out.trans (hb.mono HS4.out)); have HS5 := Zh (Nat.le_trans HS4.out hb.size); clear hb HK2)
        | (go_at_call 115; (with_reducible refine (HK5.out _ HF5.out).mono ?_); rintro _ w6 ⟨rfl, hb⟩; have HB6 := Zh (HB5.out.trans (hb.mono HS5.out)); clear hb)
        | fail)
       go_ret2
       obtain ⟨rfl, rfl⟩ := Prod.mk.inj HR2.out
       exact ⟨HB6.out, none, 0, 0, rfl, fv_nil _ _ _ _⟩
      ·
       have b5 : ¬ (k5 : Int) > 1 := by omega
       have HC2 := Zh (show canO own = if 900 < (txt own).size then ([], 2) else (own, 0) from by rw [HCN.out, if_neg (by omega)]); obtain ⟨tx, htx⟩ : ∃ tx, txt own = tx := ⟨_, rfl⟩; rw [htx] at HC2; have HL2 := Zh (fun (v : World) (hf : Fv v (some ⟨g, 0, none⟩) gc g 0 own) (hE : Env v) => (show Calls Tryz.prog 102 #[.slice (some ⟨g, 0, none⟩) m gc] v fun e w' => e = .returned (.string tx) ∧ Below v.heap.size v w' from by have := HLN.out v hf hE; rw [← HM.out] at this; rw [← HM.out, ← htx]; exact this)); clear h1 h2 h5 htx HLN
       by_cases h9 : 900 < tx.size
       ·
        have b9 : (tx.size : Int) > 900 := by omega
        have HR2 := Zh (show (rv, re) = (([], 2) : List F3 × Int) from by rw [← HRS.out, HC2.out, if_pos h9]); clear h9
        go_wp2_with (first
         | (go_at_call 115; (with_reducible refine (HK1.out _ HF3.out).mono ?_); rintro _ w4 ⟨rfl, hb⟩; have HF4 := Zh (HF3.out.below hb); have HB4 := Zh (HB3.out.trans (hb.mono HS3.out)); have HS4 := Zh (Nat.le_trans HS3.out hb.size); clear hb HK1)
         | (go_at_call 115; (with_reducible refine (HK2.out _ HF4.out).mono ?_); rintro _ w5 ⟨rfl, hb⟩; have HF5 := Zh (HF4.out.below hb); have HB5 := Zh (HB4.out.trans (hb.mono HS4.out)); have HS5 := Zh (Nat.le_trans HS4.out hb.size); clear hb HK2)
         | (go_at_call 115; (with_reducible refine (HK5.out _ HF5.out).mono ?_); rintro _ w6 ⟨rfl, hb⟩; have HF6 := Zh (HF5.out.below hb); have HB6 := Zh (HB5.out.trans (hb.mono HS5.out)); have HS6 := Zh (Nat.le_trans HS5.out hb.size); have HE6 := Zh (show Env w6 from HE.out.on (HBW.out ▸ HB6.out)); clear hb HK5)
         | (go_at_call 102; (with_reducible refine (HL2.out _ HF6.out HE6.out).mono ?_); rintro _ w7 ⟨rfl, hb⟩; have HB7 := Zh (HB6.out.trans (hb.mono HS6.out)); clear hb)
         | fail)
        go_ret2
        obtain ⟨rfl, rfl⟩ := Prod.mk.inj HR2.out
        exact ⟨HB7.out, none, 0, 0, rfl, fv_nil _ _ _ _⟩
       ·
        have b9 : ¬ (tx.size : Int) > 900 := by omega
        have HR2 := Zh (show (rv, re) = ((own, 0) : List F3 × Int) from by rw [← HRS.out, HC2.out, if_neg h9]); clear h9
        go_wp2_with (first
         | (go_at_call 115; (with_reducible refine (HK1.out _ HF3.out).mono ?_); rintro _ w4 ⟨rfl, hb⟩; have HF4 := Zh (HF3.out.below hb); have HB4 := Zh (HB3.out.trans (hb.mono HS3.out)); have HS4 := Zh (Nat.le_trans HS3.out hb.size); clear hb HK1)
         | (go_at_call 115; (with_reducible refine (HK2.out _ HF4.out).mono ?_); rintro _ w5 ⟨rfl, hb⟩; have HF5 := Zh (HF4.out.below hb); have HB5 := Zh (HB4.out.trans (hb.mono HS4.out)); have HS5 := Zh (Nat.le_trans HS4.out hb.size); clear hb HK2)
         | (go_at_call 115; (with_reducible refine (HK5.out _ HF5.out).mono ?_); rintro _ w6 ⟨rfl, hb⟩; have HF6 := Zh (HF5.out.below hb); have HB6 := Zh (HB5.out.trans (hb.mono HS5.out)); have HS6 := Zh (Nat.le_trans HS5.out hb.size); have HE6 := Zh (show Env w6 from HE.out.on (HBW.out ▸ HB6.out)); clear hb HK5)
         | (go_at_call 102; (with_reducible refine (HL2.out _ HF6.out HE6.out).mono ?_); rintro _ w7 ⟨rfl, hb⟩; have HF7 := Zh (HF6.out.below hb); have HB7 := Zh (HB6.out.trans (hb.mono HS6.out)); clear hb)
         | fail)
        go_ret2
        obtain ⟨rfl, rfl⟩ := Prod.mk.inj HR2.out
        exact ⟨HB7.out, _, _, _, by rw [HM.out]; rfl, HF7.out⟩
    ·
     have b1 : ((k1 : Int) != 1) = true := by simp; omega
     have HR2 := Zh (show (rv, re) = (([], 1) : List F3 × Int) from by rw [← HRS.out, HCN.out, if_pos (.inl h1)]); clear h1
     go_wp2_with (first
      | (go_at_call 115; (with_reducible refine (HK1.out _ HF3.out).mono ?_); rintro _ w4 ⟨rfl, hb⟩; have HB4 := Zh (HB3.out.trans (hb.mono HS3.out)); clear hb)
      | fail)
     go_ret2
     obtain ⟨rfl, rfl⟩ := Prod.mk.inj HR2.out
     exact ⟨HB4.out, none, 0, 0, rfl, fv_nil _ _ _ _⟩
 ·
  have HB1 := Zh hb; have hne : (er != 0) = true := by simpa using h0
  have HRS := Zh (show (rv, re) = (([], er) : List F3 × Int) from by rw [← HRES.out, HEr.out _ HER.out h0]); clear hb h0
  go_wp2_with fail
  go_ret2
  obtain ⟨rfl, rfl⟩ := Prod.mk.inj HRS.out
  exact ⟨HB1.out, none, 0, 0, rfl, fv_nil _ _ _ _⟩
end Go.Proofs.YtphijnkiiokieaaGreatDoor
namespace Go.Proofs.YtphijnkiiokieaaGreatDoor
open Go.RowKit
section
variable {P : Program} {ops : Array Oper} {Q : Exit → Act → World → Prop} {md : Region.Mode}
abbrev Conds := List (List Nat × (World → Prop))
def open' (E : List Nat) (listed : Array Bool) : Bool := E.all fun j => !listed.getD j false
def Hold : Conds → Array Bool → World → Prop
 | [], _, _ => True
 | c :: cs, listed, w => (open' c.1 listed = true → c.2 w) ∧ Hold cs listed w
theorem Hold.get {cs : Conds} {listed : Array Bool} {w : World} {c : List Nat × (World → Prop)} (h : Hold cs listed w) (hc : c ∈ cs) (ho : open' c.1 listed = true) : c.2 w := by
 induction cs with
 | nil => cases hc
 | cons d cs ih =>
  rcases List.mem_cons.1 hc with rfl | hc
  ·
   exact h.1 ho
  ·
   exact ih h.2 hc
theorem getD_ne {listed : Array Bool} {i j : Nat} (d : Bool) (h : i ≠ j) : (listed.setIfInBounds i true).getD j d = listed.getD j d := by
 simp [Array.getElem?_setIfInBounds_ne h]
theorem open_ne {E : List Nat} {listed : Array Bool} {i : Nat} (h : i ∉ E) : open' E (listed.setIfInBounds i true) = open' E listed := by
 unfold open'
 rw [Bool.eq_iff_iff, List.all_eq_true, List.all_eq_true]
 constructor <;> intro k j hj
 ·
  have := k j hj; rwa [getD_ne _ (fun e => h (by rw [e]; exact hj))] at this
 ·
  rw [getD_ne _ (fun e => h (by rw [e]; exact hj))]; exact k j hj
theorem Hold.unset {i : Nat} {w : World} : ∀ {cs : Conds} {listed : Array Bool}, (∀ c ∈ cs, i ∉ c.1) → Hold cs (listed.setIfInBounds i true) w → Hold cs listed w
 | [], _, _, h => h
 | c :: cs, listed, hn, h => ⟨fun ho => h.1 (by rw [open_ne (hn c List.mem_cons_self)]; exact ho), Hold.unset (fun d hd => hn d (List.mem_cons_of_mem _ hd)) h.2⟩
def wpAnyE (P : Program) (md : Region.Mode) (ops : Array Oper) (Q : Exit → Act → World → Prop) (cs : Conds) : Nat → Array Bool → Act → World → Prop
 | 0, listed, a, w => Region.ready md ops listed = [] ∧ Q .normal a w
 | fuel + 1, listed, a, w =>
  (Region.ready md ops listed = [] → Q .normal a w) ∧
  ∀ i ∈ Region.ready md ops listed, wpOp P ops Q i (fun a' w' => Hold cs (listed.setIfInBounds i true) w' ∧ wpAnyE P md ops Q cs fuel (listed.setIfInBounds i true) a' w') a w
variable {cs : Conds}
theorem wpAny_ofE : ∀ (fuel : Nat) (listed : Array Bool) (a : Act) (w : World), wpAnyE P md ops Q cs fuel listed a w → wpAny P md ops Q fuel listed a w
 | 0, _, _, _, h => h
 | fuel + 1, _, _, _, h => ⟨h.1, fun i hi => wpOp_mono (fun a' w' h' => wpAny_ofE fuel _ a' w' h'.2) (h.2 i hi)⟩
def waitsFor (md : Region.Mode) (ops : Array Oper) (E : List Nat) (i : Nat) : Bool :=
 E.all fun j => match ops[j]? with | some o => o.after.any fun e => Region.binds md e && e.on == i | none => true
theorem waits {listed : Array Bool} {j g : Nat} {o : Oper} (ho : ops[j]? = some o) (h : (o.after.any fun e => Region.binds md e && e.on == g) = true) (hg : listed.getD g false = false) : j ∉ Region.ready md ops listed := fun hj => by
 obtain ⟨_, o', ho', hall⟩ := mem_ready.1 hj; rw [ho] at ho'
 cases ho'
 obtain ⟨e, he, h2⟩ := Array.any_eq_true'.1 h; rw [Bool.and_eq_true, beq_iff_eq] at h2; have := hall e he h2.1; rw [h2.2, hg] at this
 cases this
theorem Hold.set {i : Nat} {w : World} : ∀ {cs : Conds} {listed : Array Bool}, (∀ c ∈ cs, i ∉ c.1) → Hold cs listed w → Hold cs (listed.setIfInBounds i true) w
 | [], _, _, h => h
 | c :: cs, listed, hn, h => ⟨fun ho => h.1 (by rw [open_ne (hn c List.mem_cons_self)] at ho; exact ho), Hold.set (fun d hd => hn d (List.mem_cons_of_mem _ hd)) h.2⟩
theorem wpAnyE_first {i : Nat} {oi : Oper} {v : Value} (hi : ops[i]? = some oi) (hsel : ∀ (j : Nat) (o : Oper) cs b, ops[j]? = some o → o.op ≠ .select cs b)
  (hQ : ∀ c a w, Q (.panic c) (a.put oi.dst v) w → Q (.panic c) a w) (E : List Nat) (S : World → Prop) (hES : (E, S) ∈ cs ∨ ∀ w, S w) (hG : waitsFor md ops E i = true) (hiE : i ∉ E) (hic : ∀ c ∈ cs, i ∉ c.1) :
  ∀ (fuel : Nat) (listed : Array Bool) (a : Act) (w : World), open' E listed = true → listed.getD i false = false →
   (∀ j oj, ops[j]? = some oj → j ≠ i → listed.getD j true = false → (∀ e ∈ oj.after, Region.binds md e = true → e.on ≠ i) → oi.apart ops oj = true) →
   i ∈ Region.ready md ops listed → YieldsIf P ops S oi v a → Hold cs listed w →
   wpAnyE P md ops Q cs fuel (listed.setIfInBounds i true) (a.put oi.dst v) w → wpAnyE P md ops Q cs (fuel + 1) listed a w := by
 have hSw : ∀ (listed : Array Bool) (w : World), open' E listed = true → Hold cs listed w → S w := fun listed w ho h => hES.elim (fun hm => h.get hm ho) (fun h => h w)
 intro fuel
 induction fuel with
 | zero =>
  intro listed a w hop _ _ hr hy hS H; refine ⟨fun h => (by rw [h] at hr; cases hr), fun j hj => ?_⟩
  by_cases hji : j = i
  ·
   subst hji; exact hy.wpOp hi (hSw _ _ hop hS) ⟨Hold.set hic hS, H⟩
  ·
   have := ready_mono hj hji; rw [H.1] at this
   cases this
 | succ fuel ih =>
  intro listed a w hop hli hfree hr hy hS H; refine ⟨fun h => (by rw [h] at hr; cases hr), fun j hj => ?_⟩
  by_cases hji : j = i
  ·
   subst hji; exact hy.wpOp hi (hSw _ _ hop hS) ⟨Hold.set hic hS, H⟩
  ·
   have hjE : j ∉ E := fun hjE => by
    have h1 := List.all_eq_true.1 hG j hjE; obtain ⟨_, oj, hoj, _⟩ := mem_ready.1 hj; rw [hoj] at h1
    exact waits hoj h1 hli hj
   have h1 := H.2 j (ready_mono hj hji); obtain ⟨hjun, oj, hoj, hall⟩ := mem_ready.1 hj; have hnot : ∀ e ∈ oj.after, Region.binds md e = true → e.on ≠ i := fun e he hb heq => by
    have h1 := hall e he hb; rw [heq, hli] at h1
    cases h1
   have h2 := wpOp_putIf hoj (hfree j oj hoj hji hjun hnot) (fun cs b => hsel i oi cs b hi) (fun cs b => hsel j oj cs b hoj) hQ hy h1; refine wpOp_mono (fun a' w' h3 => ?_) h2; have hS' : Hold cs (listed.setIfInBounds j true) w' := Hold.unset hic (by rw [Array.setIfInBounds_comm _ _ hji]; exact h3.2.1); refine ⟨hS', ih (listed.setIfInBounds j true) a' w' (by rw [open_ne hjE]; exact hop) (by rw [getD_ne _ hji]; exact hli) (fun k ok hk hki hun hno => ?_) (ready_mono hr (Ne.symm hji)) h3.1 hS' ?_⟩
   ·
    refine hfree k ok hk hki ?_ hno
    by_cases hjk : j = k
    ·
     subst hjk; exact hjun
    ·
     rw [getD_set_ne true hjk] at hun; exact hun
   ·
    rw [Array.setIfInBounds_comm _ _ hji]
    exact h3.2.2
def freeOf (cs : Conds) (i : Nat) : Bool := cs.all fun c => !c.1.contains i
theorem freeOf_spec {i : Nat} (h : freeOf cs i = true) (c : List Nat × (World → Prop)) (hc : c ∈ cs) : i ∉ c.1 := fun e => by
 have := List.all_eq_true.1 h c hc
 simp [e] at this
theorem wpAnyE_load {i : Nat} (E : List Nat) (S : World → Prop) {oi : Oper} {v : Value} {fuel : Nat} {listed : Array Bool} {a : Act} {w : World} (hi : ops[i]? = some oi) (hs : Region.noSelect ops = true) (hES : (E, S) ∈ cs) (hG : waitsFor md ops E i = true) (hl : (open' E listed && !listed.getD i false && !E.contains i && freeOf cs i) = true)
  (hf : Region.free md ops listed i = true) (hr : (Region.ready md ops listed).contains i = true) (hQ : ∀ c a w, Q (.panic c) (a.put oi.dst v) w → Q (.panic c) a w) (hy : YieldsIf P ops S oi v a) (hS : Hold cs listed w)
  (h : Hold cs (listed.setIfInBounds i true) w → wpAnyE P md ops Q cs fuel (listed.setIfInBounds i true) (a.put oi.dst v) w) : wpAnyE P md ops Q cs (fuel + 1) listed a w := by
 simp only [Bool.and_eq_true] at hl
 exact wpAnyE_first hi (Region.noSelect_spec hs) hQ E S (.inl hES) hG (by simpa using hl.1.2) (freeOf_spec hl.2) fuel listed a w hl.1.1.1 (by simpa using hl.1.1.2) (Region.free_spec hi hf) (by simpa using hr) hy hS (h (Hold.set (freeOf_spec hl.2) hS))
theorem wpAnyE_take {i : Nat} {oi : Oper} {v : Value} {fuel : Nat} {listed : Array Bool} {a : Act} {w : World} (hi : ops[i]? = some oi) (hs : Region.noSelect ops = true) (hl : (!listed.getD i false && freeOf cs i) = true)
  (hf : Region.free md ops listed i = true) (hr : (Region.ready md ops listed).contains i = true) (hQ : ∀ c a w, Q (.panic c) (a.put oi.dst v) w → Q (.panic c) a w) (hy : YieldsIf P ops (fun _ => True) oi v a) (hS : Hold cs listed w)
  (h : Hold cs (listed.setIfInBounds i true) w → wpAnyE P md ops Q cs fuel (listed.setIfInBounds i true) (a.put oi.dst v) w) : wpAnyE P md ops Q cs (fuel + 1) listed a w := by
 simp only [Bool.and_eq_true] at hl
 exact wpAnyE_first hi (Region.noSelect_spec hs) hQ [] (fun _ => True) (.inr fun _ => trivial) rfl (by simp) (freeOf_spec hl.2) fuel listed a w rfl (by simpa using hl.1) (Region.free_spec hi hf) (by simpa using hr) hy hS (h (Hold.set (freeOf_spec hl.2) hS))
theorem wpAnyE_done {listed : Array Bool} {a : Act} {w : World} (hr : Region.ready md ops listed = []) (h : Q .normal a w) : ∀ fuel, wpAnyE P md ops Q cs fuel listed a w
 | 0 => ⟨hr, h⟩
 | _ + 1 => ⟨fun _ => h, by rw [hr]; simp⟩
def AllE (P : Program) (md : Region.Mode) (ops : Array Oper) (Q : Exit → Act → World → Prop) (cs : Conds) (fuel : Nat) (listed : Array Bool) (a : Act) (w : World) (rs : List Nat) : Prop :=
 ∀ i ∈ rs, wpOp P ops Q i (fun a' w' => Hold cs (listed.setIfInBounds i true) w' ∧ wpAnyE P md ops Q cs fuel (listed.setIfInBounds i true) a' w') a w
theorem AllE.nil {fuel : Nat} {listed : Array Bool} {a : Act} {w : World} : AllE P md ops Q cs fuel listed a w [] := fun _ h => by cases h
theorem AllE.cons {fuel : Nat} {listed : Array Bool} {a : Act} {w : World} {i : Nat} {o : Oper} {rs : List Nat} (ho : ops[i]? = some o)
  (h : ∀ K' : Act → World → Prop, Shut (∀ a w, Hold cs (listed.setIfInBounds i true) w → (Hold cs (listed.setIfInBounds i true) w → wpAnyE P md ops Q cs fuel (listed.setIfInBounds i true) a w) → K' a w) → if Region.wanted o (yielded ops a.tmps) = true then Oper.wp P o a w K' Q else K' (a.put o.dst undef) w)
  (hs : AllE P md ops Q cs fuel listed a w rs) : AllE P md ops Q cs fuel listed a w (i :: rs) := fun j hj => by
 rcases List.mem_cons.1 hj with rfl | hj
 ·
  exact wpOp_step ho (fun K' hK => h K' (fun a w hS hW => hK a w ⟨hS, hW hS⟩))
 ·
  exact hs j hj
theorem wpAnyE_ready {rs : List Nat} {fuel : Nat} {listed : Array Bool} {a : Act} {w : World} (hr : Region.ready md ops listed = rs) (hne : rs ≠ [])
  (h : AllE P md ops Q cs fuel listed a w rs) : wpAnyE P md ops Q cs (fuel + 1) listed a w := ⟨fun h0 => absurd (hr ▸ h0) hne, hr ▸ h⟩
def Only (Q : Exit → Act → World → Prop) : Exit → Act → World → Prop
 | .normal, a, w => Q .normal a w
 | _, _, _ => False
theorem only_normal {a : Act} {w : World} (h : Q .normal a w) : Only Q .normal a w := h
theorem only_imp : ∀ (e : Exit) (a : Act) (w : World), Only Q e a w → Q e a w := fun e a w h => by
 cases e <;> first | exact h | exact (h : False).elim
theorem wp_region_E {id : Nat} {a : Act} {w : World} (cs : Conds) (hm : P.follows .mixedOrders = true) (hS : Hold cs (Array.replicate ops.size false) w.drew)
  (h : Hold cs (Array.replicate ops.size false) w.drew → wpAnyE P .any ops (Only Q) cs ops.size (Array.replicate ops.size false) a w.drew) : (Code.region id ops true).wp P Q a w :=
 Code.wp_mono only_imp (wp_region_any hm (wpAny_ofE _ _ _ _ (h hS)))
theorem blk_own {A B : World} {row : Option Nat} {b : Nat} {t : TypeId} {cs : Array Value} (h : Blk A b t cs) (hg : A.grownBy B row) (hr : ∀ r, row = some r → ∃ o : Obj, A.heap[r]? = some o ∧ o.isCells = false) : Blk B b t cs := h.grown hg (fun e => by
 obtain ⟨o, ho, hc⟩ := hr b e.symm
 unfold Blk at h
 rw [h] at ho
 cases ho
 cases hc)
theorem calls_marks {f : FuncId} {fn : Func} {c : Code} {args : Array Value} {w : World} {R : Ending → World → Prop} (hf : P.funcs[f]? = some fn) (hb : fn.body = some c)
  (h : c.wp P (bodyPostM Fence.wide 6 P fn R) { tmps := args ++ Array.replicate (fn.ntmps - args.size) undef, defers := [] } w) : Calls P f args w R :=
 (callsIn_wide (n := 6)).1 (callsIn_of_wp_marks hf hb trivial (wpIn_wide.2 h) rfl)
end
end Go.Proofs.YtphijnkiiokieaaGreatDoor
