/- The reference's Apply: what it leaves. -/
import Derived.Test.YthcjbljkokflgaaZak
set_option linter.unnecessarySimpa false
/- The reference's collection: what it is; NewCol, place, Get, Bytes. -/
namespace Go.Proofs.Ythcjbljkokflgaa
open Go.RowKit
open Go.Lib
set_option linter.unusedVariables false
set_option linter.unusedSimpArgs false
set_option maxRecDepth 100000
structure Rs where
  L : LK
  log : List Chg
  cards : Int
  lim : Int
  latest : Int
  horizon : Int
/-- The reference's collection: its box and its two rows. -/
def Rc (w : World) (B g : Nat) (r : Rs) : Prop := ∃ vL vG, Blk w g 77 #[.int .i64 r.cards, .int .i64 r.lim, vL, vG, .int .i64 r.latest, .int .i64 r.horizon] ∧ w.ownsRow B 62 4 vL r.L.length (itsC (itsK r.L)) ∧ w.ownsRow B 87 2 vG r.log.length (chC r.log) ∧ B ≤ g
theorem Rc.lt {w : World} {B g : Nat} {r : Rs} (h : Rc w B g r) : g < w.heap.size := by
  obtain ⟨_, _, e, _⟩ := h
  exact e.lt
theorem Rc.on {w w' : World} {B g : Nat} {r : Rs} (h : Rc w B g r) (hb : Below w.heap.size w w') : Rc w' B g r := by
  obtain ⟨a, b, e1, e2, e3, e4⟩ := h
  exact ⟨a, b, e1.below hb e1.lt, own_below e2 hb, own_below e3 hb, e4⟩
def rnewC (birth cards log : Int) : Rs := ⟨[], [], max cards 1, max log 1, birth, birth⟩
theorem rc_new (birth cards log : Int) (w : World) (B : Nat) (hB : B ≤ w.heap.size) : Calls Try.prog 15 #[.int .i64 birth, .int .i64 cards, .int .i64 log] w fun e w' => e = .returned (.pointer (some ⟨w.heap.size, 0, none⟩)) ∧ Rc w' B w.heap.size (rnewC birth cards log) ∧ Below w.heap.size w w' := by
  obtain ⟨mx, hmx⟩ : ∃ x, max cards 1 = x := ⟨_, rfl⟩
  obtain ⟨my, hmy⟩ : ∃ x, max log 1 = x := ⟨_, rfl⟩
  have HMX := Lib.hid hmx
  have HMY := Lib.hid hmy
  clear hmx hmy
  go_enter Try.func15, Try.ntmps15
  go_wp2
  all_goals (
    go_ret
    refine ⟨rfl, ⟨.slice none 0 0, .slice none 0 0, ?_, World.ownsRow_nil _ _ _ _, World.ownsRow_nil _ _ _ _, hB⟩, (Below.refl _ _).alloc (Nat.le_refl _) _⟩
    show Blk _ _ 77 #[.int .i64 (max cards 1), .int .i64 (max log 1), _, _, _, _]
    rw [HMX.out, HMY.out]
    first
      | exact Blk.new _ _ _
      | (rw [show mx = 1 by have := HMX.out; omega]; first | exact Blk.new _ _ _ | (rw [show my = 1 by have := HMY.out; omega]; exact Blk.new _ _ _) | (rw [show my = log by have := HMY.out; omega]; exact Blk.new _ _ _))
      | (rw [show mx = cards by have := HMX.out; omega]; first | exact Blk.new _ _ _ | (rw [show my = 1 by have := HMY.out; omega]; exact Blk.new _ _ _) | (rw [show my = log by have := HMY.out; omega]; exact Blk.new _ _ _)))
theorem itsK_get {L : LK} {q : Nat} {p : ByteArray × (Int × ByteArray)} (hp : L[q]? = some p) : (itsK L)[q]? = some ⟨p.1, p.2.1, false, p.2.2⟩ := by unfold itsK; rw [List.getElem?_map, hp]; rfl
theorem getL_at {u : ByteArray} {L : LK} {q : Nat} {p : ByteArray × (Int × ByteArray)} (hn : ∀ j r, j < q → L[j]? = some r → r.1 ≠ u) (hp : L[q]? = some p) (e : p.1 = u) : getL u L = some p.2 := by
  obtain ⟨hq, hp'⟩ := List.getElem?_eq_some_iff.1 hp
  have h1 : getL u (L.take q) = none := getL_none fun a ha => by
    obtain ⟨j, hj⟩ := List.mem_iff_getElem?.1 ha
    have hjq : j < q := by
      have := (List.getElem?_eq_some_iff.1 hj).1
      rw [List.length_take] at this
      omega
    rw [List.getElem?_take, if_pos hjq] at hj
    exact hn j a hjq hj
  rw [← List.take_append_drop q L, getL_append, h1, List.drop_eq_getElem_cons hq, getL_cons, hp', if_pos e.symm]
  rfl
/-- Where a key belongs. -/
theorem plc_at {u : ByteArray} {L : LK} {q : Nat} (hs : Srt L) (h1 : ∀ j r, j < q → L[j]? = some r → klt r.1 u = true) (h2 : ∀ r, L[q]? = some r → klt r.1 u = false) (hq : q ≤ L.length) : plc u L = q := by
  unfold plc
  have e : L.filter (fun p => klt p.1 u) = L.take q := by
    conv => lhs; rw [← List.take_append_drop q L]
    rw [List.filter_append, List.filter_eq_self.2 (fun a ha => by
      obtain ⟨j, hj⟩ := List.mem_iff_getElem?.1 ha
      have hjq : j < q := by
        have := (List.getElem?_eq_some_iff.1 hj).1
        rw [List.length_take] at this
        omega
      rw [List.getElem?_take, if_pos hjq] at hj
      exact h1 j a hjq hj), List.filter_eq_nil_iff.2 (fun a ha => ?_), List.append_nil]
    obtain ⟨j, hj⟩ := List.mem_iff_getElem?.1 ha
    rw [List.getElem?_drop] at hj
    intro hk
    have hql : q < L.length := by have := (List.getElem?_eq_some_iff.1 hj).1; omega
    have h3 := h2 _ (List.getElem?_eq_getElem hql)
    by_cases hj0 : j = 0
    · subst hj0
      rw [Nat.add_zero, List.getElem?_eq_getElem hql, Option.some.injEq] at hj
      rw [hj] at h3
      rw [h3] at hk
      cases hk
    · have hjl := (List.getElem?_eq_some_iff.1 hj)
      obtain ⟨hjl1, hjl2⟩ := hjl
      have hp := List.pairwise_iff_getElem.1 hs q (q + j) hql hjl1 (by omega)
      rw [hjl2] at hp
      rw [klt_trans hp hk] at h3
      cases h3
  rw [e, List.length_take]
  omega
theorem get_past {u : ByteArray} {L : LK} {q : Nat} {p : ByteArray × (Int × ByteArray)} (hs : Srt L) (h1 : ∀ j r, j < q → L[j]? = some r → klt r.1 u = true) (hp : L[q]? = some p) (hne : p.1 ≠ u) (h2 : klt p.1 u = false) : getL u L = none := by
  refine getL_none fun a ha e => ?_
  subst e
  obtain ⟨j, hj⟩ := List.mem_iff_getElem?.1 ha
  obtain ⟨hq, hp'⟩ := List.getElem?_eq_some_iff.1 hp
  obtain ⟨hjl, hj'⟩ := List.getElem?_eq_some_iff.1 hj
  by_cases h : j < q
  · have := h1 j a h hj; rw [klt_irr] at this; cases this
  · by_cases e : j = q
    · subst e
      rw [hj] at hp
      cases hp
      exact hne rfl
    · have h3 := List.pairwise_iff_getElem.1 hs q j hq hjl (by omega)
      rw [hp', hj'] at h3
      rw [h3] at h2
      cases h2
set_option maxHeartbeats 8000000 in
theorem rplace_any {w : World} {B g : Nat} {R : Rs} (h : Rc w B g R) (hs : Srt R.L) (hn : R.L.length ≤ 30000) (u : ByteArray) : Calls Try.prog 45 #[.pointer (some ⟨g, 0, none⟩), .string u] w fun e w' => e = .returned (.tuple #[.int .i64 (plc u R.L : Int), .bool (getL u R.L).isSome]) ∧ ∃ nq, w' = w.drewN nq := by
  obtain ⟨L, lg, cd, lm, la, ho⟩ := R
  obtain ⟨U, G, hu1, hu2, -, -⟩ := h
  simp only at hu1 hu2 hn hs
  obtain ⟨A, cap, b, rfl, hi2, -⟩ := own_its2 (xs := itsK L) (by rw [itsK_len]; exact hu2)
  rw [itsK_len] at hu1 hi2
  have HI := Lib.hid hi2
  have HS := Lib.hid hs
  have hlc := hi2.le
  have g0 := hu1.cell 2
  simp only [List.getElem?_toArray, List.getElem?_cons_zero, List.getElem?_cons_succ] at g0
  obtain ⟨len, hlen⟩ : ∃ n, L.length = n := ⟨_, rfl⟩
  have HLN := Lib.hid hlen
  rw [hlen] at HI hn hlc g0
  have hnI : (len : Int) ≤ 30000 := by omega
  obtain ⟨pq, hpq⟩ : ∃ n, plc u L = n := ⟨_, rfl⟩
  obtain ⟨bq, hbq⟩ : ∃ n, (getL u L).isSome = n := ⟨_, rfl⟩
  have HPQ := Lib.hid hpq
  have HBQ := Lib.hid hbq
  show Calls _ _ _ _ fun e w' => e = .returned (.tuple #[.int .i64 (plc u L : Int), .bool (getL u L).isSome]) ∧ _
  rw [hpq, hbq]
  clear hu1 hu2 hi2 hlen hs hpq hbq
  go_enter Try.func45, Try.ntmps45
  go_wp2
  go_loopw [6] (fun i wr => ∃ q : Nat, q ≤ len ∧ i = .int .i64 (q : Int) ∧ (∀ j r, j < q → L[j]? = some r → klt r.1 u = true) ∧ wr = w) (fun i _ => len - (intOf i).toNat)
  case atStart => exact ⟨0, Nat.zero_le _, rfl, fun j r hj => absurd hj (by omega), rfl⟩
  case round =>
    obtain ⟨q, hq, rfl, hno, rfl⟩ := hrel
    have HNO := Lib.hid hno
    clear hno
    by_cases hql : q < len
    · obtain ⟨p, hp⟩ : ∃ p, L[q]? = some p := ⟨L[q]'(by rw [HLN.out]; exact hql), List.getElem?_eq_getElem _⟩
      obtain ⟨rfl, hbl⟩ := HI.out.addr (by omega)
      obtain ⟨c0, c1, c2, c3⟩ := HI.out.cell q _ (itsK_get hp)
      have HP := Lib.hid hp
      have hqI : (q : Int) < (len : Int) := by omega
      obtain ⟨pu, pv, pc⟩ := p
      simp only [Nat.zero_add] at c0 c1 c2 c3
      clear hp hbl c1 c2 c3
      by_cases hlt : Op.bytesLess pu.toList u.toList = true
      · have HN := Lib.hid (show ∀ j r, j < q + 1 → L[j]? = some r → klt r.1 u = true from fun j r hj hr => by
          rcases Nat.lt_succ_iff_lt_or_eq.1 hj with h | rfl
          · exact HNO.out j r h hr
          · have := HP.out.symm.trans hr
            cases this
            exact hlt)
        go_wp2
        go_roundw
        case rel => exact ⟨q + 1, by omega, by go_num, HN.out, by first | trivial | rfl⟩
        case measure => simp [intOf]; omega
      · have hlt2 : Op.bytesLess pu.toList u.toList = false := by simpa using hlt
        have HPL := Lib.hid (show pq = q from HPQ.out.symm.trans (plc_at HS.out HNO.out (fun r hr => by have := HP.out.symm.trans hr; cases this; exact hlt2) (by rw [HLN.out]; omega)))
        clear hlt
        by_cases hu : pu = u
        · have hu2 : (pu.toList == u.toList) = true := by rw [hu]; simp
          have HG := Lib.hid (show bq = true from HBQ.out.symm.trans (by rw [getL_at (fun j r hj hr e => by have := HNO.out j r hj hr; rw [e, klt_irr] at this; cases this) HP.out hu]; rfl))
          clear hu
          go_wp2_with fail
          go_quiet (fail)
          go_wp2
          go_ret2
          exact ⟨by rw [HG.out, HPL.out]; rfl, _, rfl⟩
        · have hu2 : (pu.toList == u.toList) = false := by rw [keq]; exact decide_eq_false hu
          have HG := Lib.hid (show bq = false from HBQ.out.symm.trans (by rw [get_past HS.out HNO.out HP.out hu hlt2]; rfl))
          clear hu
          go_wp2_with fail
          go_quiet (fail)
          go_wp2
          go_ret2
          exact ⟨by rw [HG.out, HPL.out]; rfl, _, rfl⟩
    · obtain rfl : q = len := by omega
      have HPL := Lib.hid (show pq = q from HPQ.out.symm.trans (plc_at HS.out HNO.out (fun r hr => by have := (List.getElem?_eq_some_iff.1 hr).1; rw [HLN.out] at this; omega) (by rw [HLN.out]; omega)))
      have hnone : getL u L = none := getL_none fun a ha e => by
        obtain ⟨j, hj⟩ := List.mem_iff_getElem?.1 ha
        have h1 := (List.getElem?_eq_some_iff.1 hj).1
        have := HNO.out j a (by have := HLN.out; omega) hj
        rw [e, klt_irr] at this
        cases this
      have HG := Lib.hid (show bq = false from HBQ.out.symm.trans (by rw [hnone]; rfl))
      clear hnone
      go_wp2
      go_ret2
      exact ⟨by rw [HG.out, HPL.out]; rfl, 0, rfl⟩
end Go.Proofs.Ythcjbljkokflgaa
/- The reference's collection: Get, Bytes, Live; slices appended, cut. -/
namespace Go.Proofs.Ythcjbljkokflgaa
open Go.RowKit
open Go.Lib
set_option linter.unusedVariables false
set_option linter.unusedSimpArgs false
set_option maxRecDepth 100000
theorem infoG : (Try.prog.info? 87).map (fun i => (i.zero, i.size, i.bytes)) = some (some (.agg #[.int .i64 0, .string ⟨#[]⟩]), 2, 24) := by kernel_rfl
theorem Rc.keep {T : TypeId → Prop} {B B' g : Nat} {w w' : World} {r : Rs} (h : Rc w B g r) (k : Kc T B' w w') (h1 : ¬ T 77) (h2 : ¬ T 62) (h3 : ¬ T 87) : Rc w' B g r := by
  obtain ⟨a, b, e1, e2, e3, e4⟩ := h
  exact ⟨a, b, k.far g _ _ e1 h1, k.row e2 h2, k.row e3 h3, e4⟩
section
variable {P : Program} {w : World}
theorem run_append_nought (base : Nat) (t ty e : TypeId) (i : TypeInfo) (size : Nat) (ht : P.underlying t = some (.slice e)) (hi : P.info? e = some i)
    (v : Value) (n : Nat) (xs : List Value) (hown : w.ownsRow base e size v n xs) (A : Option Addr) (c : Nat) :
    (Builtin.append_ #[t, t] ty #[v, .slice A 0 c]).run P w = .ok v w := by
  have hlc : ∀ a : Addr, (loadCells a 0).run P w = .ok #[] w := fun a => by simp [loadCells, loadCellsFrom]
  rcases hown.2 with ⟨rfl, rfl⟩ | ⟨g, cap, cur, rfl, _, _, hnc, _⟩
  · cases A <;> simp [Builtin.append_, run_underlying ht, sizeOf, typeInfo, hi, Builtin.lenOf, Builtin.firstCells, hlc, Result.andThen]
  · cases A <;> simp [Builtin.append_, run_underlying ht, sizeOf, typeInfo, hi, Builtin.lenOf, Builtin.firstCells, hlc, hnc, storeCells, Result.andThen]
end
/-- A slice, its address unsaid where it is empty, appended onto a row of its own. -/
theorem wpList_apps {P : Program} {ops : Array Oper} {rest : List Oper} {o : Oper} {a : Act} {Q : Exit → Act → World → Prop} (w : World) (hgd : o.guard = none) (s x : Operand) (t e : TypeId)
    (ho : o.op = .call { callee := .builtin .append, args := #[s, x], argTypes := #[t, t] }) (i : TypeInfo) (z : Value) (size bytes : Nat) (ht : P.underlying t = some (.slice e)) (hi : P.info? e = some i) (hz : i.zero = some z) (hsz : i.size = size) (hby : i.bytes = bytes) (hzs : z.cells.size = size) (hs0 : 0 < size)
    (B : Nat) (V : Value) (n : Nat) (xs : List Value) (hs : a.eval s = V) (h : w.ownsRow B e size V n xs) (A : Option Addr) (m c : Nat) (news : List Value) (hx : a.eval x = .slice A m c) (hl : news.length = m * size) (hA : 0 < m → ∃ ad, A = some ad ∧ ∀ j u, news[j]? = some u → w.cell? (ad.add j) = some u) (h1 : ∀ u ∈ news, u.oneCell' = true)
    (hn : n + m ≤ maxLen) (hb : (n + m) * bytes ≤ 140737488355328) (hB : B ≤ w.heap.size)
    (hK : ∀ V' w', w'.ownsRow B e size V' (n + m) (xs ++ news) → w.grownBy w' V.ownBlock → wpList P ops Q rest (a.put o.dst V') w') : wpList P ops Q (o :: rest) a w := by
  rcases Nat.eq_zero_or_pos m with h0 | h0
  · subst h0
    obtain rfl : news = [] := List.eq_nil_of_length_eq_zero (by rw [hl]; omega)
    have hr := run_append_nought (P := P) (w := w) B t o.type e i size ht hi V n xs h A c
    refine wpList_plain hgd fun K hK2 => ?_
    unfold Oper.wp execOp
    simp only [ho, resolve, invoke, builtin, Sem.run_bind, Sem.run_pure, Result.andThen_ok, List.map_toArray, List.map_cons, List.map_nil, hs, hx, hr]
    have := hK V w (by rw [List.append_nil]; exact h) (World.grownBy.refl w _)
    first
      | exact hK2 _ _ this
      | (simp [Result.andThen]; exact hK2 _ _ this)
  · obtain ⟨ad, rfl, hc⟩ := hA h0
    exact wpList_append_own w hgd s x t ho B e i z size bytes ht hi hz hsz hby hzs hs0 V n xs hs h ad m c news hx hl hc h1 hn hb hB (fun V' w' h1 h2 _ => hK V' w' h1 h2)
def cutN (k : Nat) (A : Option Addr) (cap i : Nat) : Option Addr := if cap = i then A else A.map fun p => p.add (i * k)
theorem icut_to (A : Option Addr) (n cap k : Nat) (hk : k ≤ cap) (W : World) : (Instr.sliceAt 40 (.slice A n cap) none (some (.int .i64 (k : Int))) none).run Try.prog W = .ok (.slice A k cap) W := by
  rw [run_sliceAt_slice W 40 _ _ _ _ (by exact Try.underlying40), run_slice_h W 40 _ _ _ (by exact Try.underlying40) _ _ (by omega) (by omega)]
  have e : Try.prog.elem 40 = 62 := by kernel_rfl
  have e2 : (sizeOf 62).run Try.prog W = .ok 4 W := by kernel_rfl
  rw [e, e2]
  simp only [Result.andThen, sliced, Int.toNat_natCast, Nat.zero_mul, Nat.sub_zero]
  congr 2
  by_cases h : cap = 0
  · rw [if_pos h]
  · rw [if_neg h]
    cases A <;> rfl
theorem icut_from (A : Option Addr) (n cap k : Nat) (z : Int) (hz : z = (k : Int)) (hk : k ≤ n) (W : World) : (Instr.sliceAt 40 (.slice A n cap) (some (.int .i64 z)) none none).run Try.prog W = .ok (.slice (cutN 4 A cap k) (n - k) (cap - k)) W := by
  subst hz
  rw [run_sliceAt_slice W 40 _ _ _ _ (by exact Try.underlying40), run_slice_l W 40 _ _ _ (by exact Try.underlying40) _ _ (by omega) (by omega)]
  have e : Try.prog.elem 40 = 62 := by kernel_rfl
  have e2 : (sizeOf 62).run Try.prog W = .ok 4 W := by kernel_rfl
  rw [e, e2]
  simp only [Result.andThen, sliced, Int.toNat_natCast, cutN]
theorem gcut_from (A : Option Addr) (n cap k : Nat) (z : Int) (hz : z = (k : Int)) (hk : k ≤ n) (W : World) : (Instr.sliceAt 75 (.slice A n cap) (some (.int .i64 z)) none none).run Try.prog W = .ok (.slice (cutN 2 A cap k) (n - k) (cap - k)) W := by
  subst hz
  rw [run_sliceAt_slice W 75 _ _ _ _ (by exact Try.underlying75), run_slice_l W 75 _ _ _ (by exact Try.underlying75) _ _ (by omega) (by omega)]
  have e : Try.prog.elem 75 = 87 := by kernel_rfl
  have e2 : (sizeOf 87).run Try.prog W = .ok 2 W := by kernel_rfl
  rw [e, e2]
  simp only [Result.andThen, sliced, Int.toNat_natCast, cutN]
/-- A row's cells, and those of its parts. -/
def Sk (w : World) (A : Option Addr) (cap g : Nat) (vs : List Value) : Prop := ∀ j u, vs[j]? = some u → A = some ⟨g, 0, none⟩ ∧ g < w.heap.size ∧ w.cell? ⟨g, j, none⟩ = some u
theorem sk_row {w : World} {B n k : Nat} {e : TypeId} {V : Value} {vs : List Value} (h : w.ownsRow B e k V n vs) : ∃ A cap g, V = .slice A n cap ∧ n ≤ cap ∧ Sk w A cap g vs := by
  obtain ⟨h0, ⟨rfl, rfl⟩ | ⟨g, cap, cur, rfl, e2, e3, e4, e5, e6, e7⟩⟩ := h
  · refine ⟨none, 0, 0, rfl, Nat.le_refl _, fun j u hj => ?_⟩
    have := (List.getElem?_eq_some_iff.1 hj).1
    rw [h0] at this
    omega
  · have hb : Blk w g e cur := e3
    refine ⟨some ⟨g, 0, none⟩, cap, g, rfl, e4, fun j u hj => ⟨rfl, hb.lt, ?_⟩⟩
    have hl := (List.getElem?_eq_some_iff.1 hj).1
    rw [h0] at hl
    rw [hb.cell, ← hj, ← e7, List.getElem?_take_of_lt hl, Array.getElem?_toList]
theorem Sk.on {w W : World} {A : Option Addr} {cap g : Nat} {vs : List Value} (h : Sk w A cap g vs) (hb : Below w.heap.size w W) : Sk W A cap g vs := fun j u hj => by
  obtain ⟨a, b, c⟩ := h j u hj
  exact ⟨a, Nat.lt_of_lt_of_le b hb.size, (hb.cell (p := ⟨g, j, none⟩) b).trans c⟩
theorem add_off (g o j : Nat) : (⟨g, o, none⟩ : Addr).add j = ⟨g, o + j, none⟩ := by unfold Addr.add; split <;> simp_all
theorem Sk.to {w : World} {A : Option Addr} {cap g : Nat} {vs : List Value} (h : Sk w A cap g vs) (k : Nat) (hk : 0 < k) (m : Nat) (hm : m * k ≤ vs.length) : 0 < m → ∃ ad, A = some ad ∧ ∀ j u, (vs.take (m * k))[j]? = some u → w.cell? (ad.add j) = some u := fun hp => by
  have h0 : 0 < m * k := Nat.mul_pos hp hk
  obtain ⟨rfl, -⟩ := h 0 _ (List.getElem?_eq_getElem (by omega))
  refine ⟨_, rfl, fun j u hj => ?_⟩
  rw [List.getElem?_take] at hj
  split at hj
  · rw [add_off, Nat.zero_add]; exact (h j u hj).2.2
  · cases hj
theorem Sk.from {w : World} {A : Option Addr} {cap g : Nat} {vs : List Value} (h : Sk w A cap g vs) (k : Nat) (hk : 0 < k) (m n : Nat) (hn : vs.length = n * k) (hc : n ≤ cap) (hm : m ≤ n) : 0 < n - m → ∃ ad, cutN k A cap m = some ad ∧ ∀ j u, (vs.drop (m * k))[j]? = some u → w.cell? (ad.add j) = some u := fun hp => by
  have h0 : 0 < n * k := Nat.mul_pos (by omega) hk
  obtain ⟨rfl, -⟩ := h 0 _ (List.getElem?_eq_getElem (by omega))
  refine ⟨⟨g, m * k, none⟩, ?_, fun j u hj => ?_⟩
  · unfold cutN
    rw [if_neg (by omega), Option.map_some, add_off, Nat.zero_add]
  · rw [List.getElem?_drop] at hj
    rw [add_off]; exact (h _ u hj).2.2
theorem itsC_take (xs : List It) (k : Nat) : itsC (xs.take k) = (itsC xs).take (k * 4) := by
  refine List.ext_getElem? fun t => ?_
  rw [itsC_at, List.getElem?_take, List.getElem?_take, itsC_at]
  by_cases h : t < k * 4
  · rw [if_pos h, if_pos (by omega)]
  · rw [if_neg h, if_neg (by omega)]
theorem itsC_drop (xs : List It) (k : Nat) : itsC (xs.drop k) = (itsC xs).drop (k * 4) := by
  refine List.ext_getElem? fun t => ?_
  rw [itsC_at, List.getElem?_drop, List.getElem?_drop, itsC_at, show (k * 4 + t) / 4 = k + t / 4 by omega, show (k * 4 + t) % 4 = t % 4 by omega]
theorem itsC_append (a b : List It) : itsC (a ++ b) = itsC a ++ itsC b := by unfold itsC; simp
theorem itsC_one (xs : List It) : ∀ u ∈ itsC xs, u.oneCell' = true := fun u hu => by
  unfold itsC at hu
  obtain ⟨l, hl, hu⟩ := List.mem_flatten.1 hu
  obtain ⟨t, _, rfl⟩ := List.mem_map.1 hl
  unfold itC at hu
  simp only [List.mem_cons, List.not_mem_nil, or_false] at hu
  rcases hu with rfl | rfl | rfl | rfl <;> rfl
theorem chC_one (l : List Chg) : ∀ u ∈ chC l, u.oneCell' = true := fun u hu => by
  unfold chC at hu
  obtain ⟨r, hl, hu⟩ := List.mem_flatten.1 hu
  obtain ⟨t, _, rfl⟩ := List.mem_map.1 hl
  unfold chV at hu
  simp only [List.mem_cons, List.not_mem_nil, or_false] at hu
  rcases hu with rfl | rfl <;> rfl
theorem chC_drop1 (l : List Chg) : chC (l.drop 1) = (chC l).drop (1 * 2) := by
  cases l with
  | nil => rfl
  | cons a l => rfl
set_option maxHeartbeats 4000000 in
theorem rlive_any {w : World} {B g : Nat} {R : Rs} (h : Rc w B g R) (hn : R.L.length ≤ 30000) : Calls Try.prog 23 #[.pointer (some ⟨g, 0, none⟩)] w fun e w' => ∃ U, e = .returned U ∧ w'.ownsRow w.heap.size 62 4 U R.L.length (itsC (itsK R.L)) ∧ Below w.heap.size w w' := by
  obtain ⟨i0, hi, hz0, hz1, hz2⟩ := info_parts infoIt
  obtain ⟨L, lg, cd, lm, la, ho⟩ := R
  obtain ⟨U, G, hu1, hu2, -, -⟩ := h
  simp only at hu1 hu2 hn ⊢
  obtain ⟨A, cap, b, rfl, hcap, hsk⟩ := sk_row hu2
  have HSK := Lib.hid hsk
  obtain ⟨w1, hw1⟩ : ∃ w1, w.alloc (.cells #[] 62) = w1 := ⟨_, rfl⟩
  have HB1 := Lib.hid (show Below w.heap.size w w1 from hw1 ▸ (Below.refl _ w).alloc (Nat.le_refl _) _)
  have HO1 := Lib.hid (show w1.ownsRow w.heap.size 62 4 (.slice (some ⟨w.heap.size, 0, none⟩) 0 0) 0 [] from hw1 ▸ World.ownsRow_lit w #[] 0 (Nat.le_refl _) (by decide) rfl)
  have g1 : w1.cell? ⟨g, 2, none⟩ = some (.slice A L.length cap) := (hu1.below HB1.out hu1.lt).cell 2
  have HTO := Lib.hid (show 0 < L.length → ∃ ad, A = some ad ∧ ∀ j u, (itsC (itsK L))[j]? = some u → w1.cell? (ad.add j) = some u from by
    have := (hsk.on HB1.out).to 4 (by decide) L.length (by rw [itsC_len, itsK_len]; exact Nat.le_refl _)
    rwa [List.take_of_length_le (by rw [itsC_len, itsK_len]; exact Nat.le_refl _)] at this)
  clear hu1 hu2 hsk
  go_enter Try.func23, Try.ntmps23
  go_wp2_with (first
    | (at_builtin
       refine wpList_apps _ rfl _ _ 40 62 rfl i0 _ 4 48 Try.underlying40 hi hz0 hz1 hz2 rfl (by decide) w.heap.size _ 0 [] rfl HO1.out A L.length cap (itsC (itsK L)) rfl (by rw [itsC_len, itsK_len]) HTO.out (itsC_one _) (by unfold maxLen; omega) (by omega) HB1.out.size ?_
       intro v' w2 hown hgr
       have HO2 := Lib.hid hown
       have HB2 := Lib.hid (HB1.out.grown hgr HB1.out.size (fun k e => (HO1.out.lt k e).1))
       clear hown hgr)
    | fail)
  go_ret
  exact ⟨v', rfl, by have := HO2.out; rwa [Nat.zero_add, List.nil_append] at this, HB2.out⟩
end Go.Proofs.Ythcjbljkokflgaa
/- The reference's collection: Get, Bytes. -/
namespace Go.Proofs.Ythcjbljkokflgaa
open Go.RowKit
open Go.Lib
set_option linter.unusedVariables false
set_option linter.unusedSimpArgs false
set_option maxRecDepth 100000
theorem plc_get {u : ByteArray} {L : LK} {x : Int × ByteArray} (hs : Srt L) (h : getL u L = some x) : L[plc u L]? = some (u, x) := by
  obtain ⟨q, hq⟩ := List.mem_iff_getElem?.1 (getL_mem h)
  obtain ⟨hql, hq'⟩ := List.getElem?_eq_some_iff.1 hq
  rw [plc_at hs (q := q) (fun j r hj hr => by
    obtain ⟨hjl, hj'⟩ := List.getElem?_eq_some_iff.1 hr
    have := List.pairwise_iff_getElem.1 hs j q hjl hql hj
    rw [hq', hj'] at this
    exact this) (fun r hr => by rw [hq] at hr; cases hr; exact klt_irr u) (by omega)]
  exact hq
set_option maxHeartbeats 8000000 in
theorem rget_any {w : World} {B g : Nat} {R : Rs} (h : Rc w B g R) (hs : Srt R.L) (hn : R.L.length ≤ 30000) (u : ByteArray) (o : Option (Int × ByteArray)) (ho : getL u R.L = o) : Calls Try.prog 20 #[.pointer (some ⟨g, 0, none⟩), .string u] w fun e w' => e = .returned (.tuple #[.int .i64 (o.getD (0, .empty)).1, .string (o.getD (0, .empty)).2, .bool o.isSome]) ∧ ∃ nq, w' = w.drewN nq := by
  have HPL := Lib.hid (rplace_any h hs hn u)
  rw [ho] at HPL
  obtain ⟨L, lg, cd, lm, la, hor⟩ := R
  obtain ⟨U, G, hu1, hu2, -, -⟩ := h
  simp only at hu1 hu2 hn hs ho HPL
  cases o with
  | none =>
    simp only [Option.isSome_none, Option.getD_none] at HPL ⊢
    clear hu1 hu2
    go_enter Try.func20, Try.ntmps20
    go_wp2_with fail
    refine HPL.out.mono ?_
    rintro _ w1 ⟨rfl, nq, rfl⟩
    go_wp2
    go_ret3
    exact ⟨rfl, nq, rfl⟩
  | some x =>
    have hx := plc_get hs ho
    simp only [Option.isSome_some, Option.getD_some] at HPL ⊢
    obtain ⟨q, hq⟩ : ∃ q, plc u L = q := ⟨_, rfl⟩
    rw [hq] at HPL hx
    obtain ⟨A, cap, b, rfl, hi2, -⟩ := own_its2 (xs := itsK L) (by rw [itsK_len]; exact hu2)
    rw [itsK_len] at hu1 hi2
    have hql := (List.getElem?_eq_some_iff.1 hx).1
    have hqI : (q : Int) < (L.length : Int) := by omega
    obtain ⟨rfl, hbl⟩ := hi2.addr (by omega)
    have hcap := hi2.le
    have HCE := Lib.hid (show w.cell? ⟨g, 2, none⟩ = some (.slice (some ⟨b, 0, none⟩) L.length cap) ∧ w.cell? ⟨b, q * 4 + 1, none⟩ = some (.int .i64 x.1) ∧ w.cell? ⟨b, q * 4 + 3, none⟩ = some (.string x.2) from by
      obtain ⟨c0, c1, c2, c3⟩ := hi2.cell q _ (itsK_get hx)
      simp only [Nat.zero_add] at c0 c1 c2 c3
      exact ⟨hu1.cell 2, c1, c3⟩)
    obtain ⟨len, hlen⟩ : ∃ n, L.length = n := ⟨_, rfl⟩
    rw [hlen] at HCE hqI hcap hql
    have hq0 : (0 : Int) ≤ (q : Int) := by omega
    clear hu1 hu2 hi2 hx hq hs ho hbl hlen
    go_enter Try.func20, Try.ntmps20
    go_wp2_with fail
    refine HPL.out.mono ?_
    rintro _ w1 ⟨rfl, nq, rfl⟩
    obtain ⟨g2, c1, c3⟩ := HCE.out
    go_wp2_with fail
    go_quiet (fail)
    go_wp2
    go_ret3
    exact ⟨rfl, _, by rw [World.drewN_drewN]⟩
/-- How many bytes the cards have. -/
def bytesL : LK → Nat
  | [] => 0
  | p :: L => p.2.2.size + bytesL L
theorem bytesL_append : ∀ (A B : LK), bytesL (A ++ B) = bytesL A + bytesL B
  | [], B => by simp [bytesL]
  | p :: A, B => by simp only [List.cons_append, bytesL, bytesL_append A B]; omega
theorem bytesL_le : ∀ (L : LK), (∀ p ∈ L, p.2.2.size ≤ 1000000) → bytesL L ≤ L.length * 1000000
  | [], h => by simp [bytesL]
  | p :: L, h => by
    have h1 := h p List.mem_cons_self
    have h2 := bytesL_le L (fun q hq => h q (List.mem_cons_of_mem _ hq))
    simp only [bytesL, List.length_cons]
    omega
set_option maxHeartbeats 8000000 in
theorem rbytes_any {w : World} {B g : Nat} {R : Rs} (h : Rc w B g R) (hn : R.L.length ≤ 30000) (hz : ∀ p ∈ R.L, p.2.2.size ≤ 1000000) : Calls Try.prog 46 #[.pointer (some ⟨g, 0, none⟩)] w fun e w' => e = .returned (.int .i64 (bytesL R.L : Int)) ∧ w' = w := by
  obtain ⟨L, lg, cd, lm, la, hor⟩ := R
  obtain ⟨U, G, hu1, hu2, -, -⟩ := h
  simp only at hu1 hu2 hn hz ⊢
  obtain ⟨A, cap, b, rfl, hi2, -⟩ := own_its2 (xs := itsK L) (by rw [itsK_len]; exact hu2)
  rw [itsK_len] at hu1 hi2
  have HI := Lib.hid hi2
  have hlc := hi2.le
  have g0 := hu1.cell 2
  simp only [List.getElem?_toArray, List.getElem?_cons_zero, List.getElem?_cons_succ] at g0
  have HZ := Lib.hid (fun q => bytesL_le (L.take q) (fun p hp => hz p (List.mem_of_mem_take hp)))
  obtain ⟨len, hlen⟩ : ∃ n, L.length = n := ⟨_, rfl⟩
  have HLN := Lib.hid hlen
  rw [hlen] at HI hn hlc g0
  have hnI : (len : Int) ≤ 30000 := by omega
  clear hu1 hu2 hi2 hlen hz
  go_enter Try.func46, Try.ntmps46
  go_wp2
  go_loopw [3, 4] (fun s i wr => ∃ q : Nat, q ≤ len ∧ s = .int .i64 (bytesL (L.take q) : Int) ∧ i = .int .i64 (q : Int) ∧ wr = w) (fun _ i _ => len - (intOf i).toNat)
  case atStart => exact ⟨0, Nat.zero_le _, rfl, rfl, rfl⟩
  case round =>
    obtain ⟨q, hq, rfl, rfl, rfl⟩ := hrel
    by_cases hql : q < len
    · obtain ⟨p, hp⟩ : ∃ p, L[q]? = some p := ⟨L[q]'(by rw [HLN.out]; exact hql), List.getElem?_eq_getElem _⟩
      obtain ⟨rfl, hbl⟩ := HI.out.addr (by omega)
      obtain ⟨c0, c1, c2, c3⟩ := HI.out.cell q _ (itsK_get hp)
      have hqI : (q : Int) < (len : Int) := by omega
      obtain ⟨pu, pv, pc⟩ := p
      simp only [Nat.zero_add] at c0 c1 c2 c3
      obtain ⟨sm, hsm⟩ : ∃ n, bytesL (L.take q) = n := ⟨_, rfl⟩
      have HN := Lib.hid (show bytesL (L.take (q + 1)) = sm + pc.size by rw [List.take_add_one, hp, bytesL_append, hsm]; simp [bytesL])
      have hb1 := HZ.out (q + 1)
      rw [HN.out, List.length_take] at hb1
      have i1 : IntKind.i64.wrap ((sm : Int) + (pc.size : Int)) = ((sm + pc.size : Nat) : Int) := by rw [IntWalk.i64_in _ (by omega)]; push_cast; rfl
      rw [hsm]
      clear hp hbl c0 c1 c2 hsm hb1
      go_wp2
      go_roundw
      case rel => exact ⟨q + 1, by omega, by rw [HN.out]; simp, by go_num, by first | trivial | rfl⟩
      case measure => simp [intOf]; omega
    · obtain rfl : q = len := by omega
      have HE := Lib.hid (show L.take q = L from List.take_of_length_le (by rw [HLN.out]; exact Nat.le_refl _))
      go_wp2
      go_ret
      exact ⟨by rw [HE.out]; rfl, rfl⟩
end Go.Proofs.Ythcjbljkokflgaa
namespace Go.Proofs.Ythcjbljkokflgaa
open Go.RowKit
open Go.Lib
set_option linter.unusedVariables false
set_option linter.unusedSimpArgs false
set_option maxRecDepth 100000
/-- The reference's own kinds. -/
def RT (t : TypeId) : Prop := t = 77 ∨ t = 87
theorem plc_le (u : ByteArray) (L : LK) : plc u L ≤ L.length := by unfold plc; exact List.length_filter_le _ _
theorem plc_lt {u : ByteArray} {L : LK} (hs : Srt L) (h : (getL u L).isSome = true) : plc u L < L.length := by
  obtain ⟨x, hx⟩ := Option.isSome_iff_exists.1 h
  exact (List.getElem?_eq_some_iff.1 (plc_get hs hx)).1
/-- The row of cards behind a write. -/
def rRow (L : LK) (del : Bool) (uid card : ByteArray) (tok : Int) : LK := (L.take (plc uid L) ++ if del = true then [] else [(uid, (tok, card))]) ++ L.drop (if (getL uid L).isSome = true then plc uid L + 1 else plc uid L)
def rLog (R : Rs) (x : Chg) : Rs := if R.lim < (R.log.length : Int) + 1 then { R with log := (R.log ++ [x]).drop 1, horizon := max R.horizon ((R.log ++ [x]).headD (0, .empty)).1 } else { R with log := R.log ++ [x] }
def rYes (R : Rs) (del : Bool) (uid card : ByteArray) (tok : Int) : Rs := { rLog { R with L := rRow R.L del uid card tok } (tok, uid) with latest := tok }
theorem row_ne {w : World} {B : Nat} {e t : TypeId} {k n g : Nat} {v : Value} {xs : List Value} {cs : Array Value} (h : w.ownsRow B e k v n xs) (hb : Blk w g t cs) (hne : t ≠ e) : ∀ j, v.ownBlock = some j → j ≠ g := fun j hj ej => by
  subst ej
  obtain ⟨h0, h3 | ⟨b, cap, cur, rfl, e2, e3, e4⟩⟩ := h
  · rw [h3.1] at hj; cases hj
  · obtain rfl : b = j := Option.some.inj hj
    unfold Blk at hb
    rw [e3] at hb
    cases hb
    exact hne rfl
theorem row_past {w w' : World} {B B' : Nat} {e e' : TypeId} {k k' n n' : Nat} {v v' : Value} {xs xs' : List Value} (h : w.ownsRow B e k v n xs) (hr : w.ownsRow B' e' k' v' n' xs') (hne : e ≠ e') (hg : w.grownBy w' v'.ownBlock) : w'.ownsRow B e k v n xs :=
  own_keep h (fun j hj => hg.block j (h.lt j hj).2 (fun eq => by
    obtain ⟨h0, h3 | ⟨b, cap, cur, rfl, e2, e3, e4⟩⟩ := h
    · rw [h3.1] at hj; cases hj
    · obtain rfl : b = j := Option.some.inj hj
      exact row_ne hr (show Blk w b e cur from e3) hne b eq.symm rfl))
/-- What stands in the row of cards behind a write. -/
theorem rr_its {L : LK} {uid card : ByteArray} {tok : Int} {del : Bool} {q Q : Nat} (hq : plc uid L = q) (hQ : (if (getL uid L).isSome = true then plc uid L + 1 else plc uid L) = Q) : itsC (itsK (rRow L del uid card tok)) = ((itsC (itsK L)).take (q * 4) ++ (if del = true then [] else [.string uid, .int .i64 tok, .bool false, .string card])) ++ (itsC (itsK L)).drop (Q * 4) := by
  unfold rRow
  rw [hQ, hq]
  unfold itsK
  rw [List.map_append, List.map_append, itsC_append, itsC_append, List.map_take, itsC_take, List.map_drop, itsC_drop]
  cases del <;> rfl
theorem rr_len {L : LK} {uid card : ByteArray} {tok : Int} {del : Bool} {q Q : Nat} (hq : plc uid L = q) (hQ : (if (getL uid L).isSome = true then plc uid L + 1 else plc uid L) = Q) (hl : q ≤ L.length) : (rRow L del uid card tok).length = (q + if del = true then 0 else 1) + (L.length - Q) := by
  unfold rRow
  rw [hQ, hq]
  cases del <;> simp <;> omega
theorem ry_no {L : LK} {lg : List Chg} {cd lm la hor : Int} {del : Bool} {uid card : ByteArray} {tok : Int} (h : ¬ lm < (lg.length : Int) + 1) : rYes ⟨L, lg, cd, lm, la, hor⟩ del uid card tok = ⟨rRow L del uid card tok, lg ++ [(tok, uid)], cd, lm, tok, hor⟩ := by
  unfold rYes rLog
  rw [if_neg h]
theorem ry_full {L : LK} {lg : List Chg} {cd lm la hor : Int} {del : Bool} {uid card : ByteArray} {tok : Int} (h : lm < (lg.length : Int) + 1) : rYes ⟨L, lg, cd, lm, la, hor⟩ del uid card tok = ⟨rRow L del uid card tok, (lg ++ [(tok, uid)]).drop 1, cd, lm, tok, max hor ((lg ++ [(tok, uid)]).headD (0, .empty)).1⟩ := by
  unfold rYes rLog
  rw [if_pos h]
/-- The last store. -/
theorem rc_fin {w W : World} {B BL g : Nat} {cd lm la hor : Int} {VL VG : Value} {n m : Nat} {xs ys : List Value} {R : Rs} (hG : Blk W g 77 #[.int .i64 cd, .int .i64 lm, VL, VG, .int .i64 la, .int .i64 hor]) (hL : W.ownsRow BL 62 4 VL n xs) (hBL : B ≤ BL) (hR : W.ownsRow B 87 2 VG m ys) (hK : Kc RT B w W) (hg : B ≤ g)
    (h1 : R.cards = cd) (h2 : R.lim = lm) (h3 : R.horizon = hor) (h4 : R.L.length = n) (h5 : itsC (itsK R.L) = xs) (h6 : R.log.length = m) (h7 : chC R.log = ys) : Rc (W.setCell ⟨g, 4, none⟩ (.int .i64 R.latest)) B g R ∧ Kc RT B w (W.setCell ⟨g, 4, none⟩ (.int .i64 R.latest)) := by
  subst h1 h2 h3 h4 h5 h6 h7
  exact ⟨⟨VL, VG, hG.set_ 4 _, own_keep (own_base hL hBL) (fun j hj => Below.heap_setCell W ⟨g, 4, none⟩ _ j (row_ne hL hG (by decide) j hj)), own_keep hR (fun j hj => Below.heap_setCell W ⟨g, 4, none⟩ _ j (row_ne hR hG (by decide) j hj)), hg⟩, hK.set hG (.inl rfl) hg 4 _⟩
theorem sk_of {w : World} {B n k cap : Nat} {e : TypeId} {A : Option Addr} {vs : List Value} (h : w.ownsRow B e k (.slice A n cap) n vs) : n ≤ cap ∧ ∃ g, Sk w A cap g vs := by
  obtain ⟨A', cap', g, e1, e2, e3⟩ := sk_row h
  cases e1
  exact ⟨e2, g, e3⟩
theorem head_cell (lg : List Chg) (x : Chg) : (chC lg ++ [.int .i64 x.1, .string x.2])[0]? = some (.int .i64 ((lg ++ [x]).headD (0, .empty)).1) := by
  cases lg <;> rfl
theorem nm_max {n : Nat} (h : n ≤ 20001) : 0 + (n - 1) ≤ maxLen ∧ (0 + (n - 1)) * 24 ≤ 140737488355328 := ⟨by unfold maxLen; omega, by omega⟩
end Go.Proofs.Ythcjbljkokflgaa
