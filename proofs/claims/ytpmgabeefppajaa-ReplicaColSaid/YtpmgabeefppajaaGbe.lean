/- ReplicaCol: a copy that folds a collection's pages. -/
import Derived.Test.YtpmgabeefppajaaGay
import Derived.Test.YtpmgabeefppajaaGbd
set_option linter.unnecessarySimpa false
/- A collection and its copy: steps, what stands between them. -/
namespace Go.Proofs.Ytpmgabeefppajaa
open Go.RowKit
open Go.Lib
open Go.Proofs.Sp
set_option linter.unusedVariables false
set_option linter.unusedSimpArgs false
set_option maxRecDepth 100000
structure Stp where
  o : Ow
  syn : Bool
def stC (a : Stp) : List Value := opC a.o ++ [.bool a.syn]
theorem st_open {w : World} {cs : List Value} (h : Sh.ok w (Sh.agg 6 [(0, 5, shOp), (5, 1, Sh.bool)]) cs) : ∃ a : Stp, cs = stC a := by
  rw [Sh.ok, Sh.okAll, Sh.okAll] at h
  obtain ⟨hl, h0, h1, _⟩ := h
  obtain ⟨o, ho⟩ := op_open h0
  simp only [Sh.ok] at h1
  obtain ⟨y, e0⟩ := h1
  refine ⟨⟨o, y⟩, ?_⟩
  match cs, hl with
  | [c0, c1, c2, c3, c4, c5], _ =>
    simp at e0
    subst e0
    simp at ho
    unfold stC
    rw [← ho]; rfl
/-- A row of them. -/
structure Sts (w : World) (A : Option Addr) (len cap b off : Nat) (l : List Stp) : Prop where
  hlen : l.length = len
  le : len ≤ cap
  addr : 0 < len → A = some ⟨b, off, none⟩ ∧ b < w.heap.size
  cell : ∀ (j : Nat) (a : Stp), l[j]? = some a → ∀ i, i < 6 → w.cell? ⟨b, off + j * 6 + i, none⟩ = (stC a)[i]?
theorem Sts_open {w : World} {A : Option Addr} {len cap : Nat} (S : Sh.ok w (Sh.slice 6 (Sh.agg 6 [(0, 5, shOp), (5, 1, Sh.bool)])) [.slice A len cap]) : ∃ b off l, Sts w A len cap b off l := by
  obtain ⟨b, off, hle, hmax, ha, hc⟩ := slice_at S (by omega)
  have H : ∀ i, i < len → ∃ a : Stp, ∀ j, j < 6 → w.cell? ⟨b, off + i * 6 + j, none⟩ = (stC a)[j]? := by
    intro i hi
    obtain ⟨cs, hl, hok, hcell⟩ := hc i hi
    obtain ⟨a, rfl⟩ := st_open hok
    exact ⟨a, hcell⟩
  refine ⟨b, off, List.ofFn (fun i : Fin len => Classical.choose (H i.1 i.2)), ⟨by simp, hle, ha, fun j a hj => ?_⟩⟩
  have hjl : j < len := by have := (List.getElem?_eq_some_iff.1 hj).1; simpa using this
  rw [List.getElem?_eq_getElem (by simpa using hjl)] at hj
  simp only [List.getElem_ofFn, Option.some.injEq] at hj
  have h2 := Classical.choose_spec (H j hjl)
  rw [hj] at h2
  exact h2
theorem Sts.addr' {w : World} {A : Option Addr} {len cap b off : Nat} {l : List Stp} (h : Sts w A len cap b off l) {q : Nat} {a : Stp} (ha : l[q]? = some a) : A = some ⟨b, off, none⟩ ∧ b < w.heap.size :=
  h.addr (by have := (List.getElem?_eq_some_iff.1 ha).1; have := h.hlen; omega)
theorem Sts.at_ {w wr : World} {A : Option Addr} {len cap b off : Nat} {l : List Stp} (h : Sts w A len cap b off l) (hb : Below w.heap.size w wr) {q : Nat} {a : Stp} (ha : l[q]? = some a) : wr.cell? ⟨b, off + q * 6, none⟩ = some (.bool a.o.del) ∧ wr.cell? ⟨b, off + q * 6 + 1, none⟩ = some (.string a.o.uid) ∧ wr.cell? ⟨b, off + q * 6 + 2, none⟩ = some (.string a.o.card) ∧ wr.cell? ⟨b, off + q * 6 + 3, none⟩ = some (.int .i64 a.o.k) ∧ wr.cell? ⟨b, off + q * 6 + 4, none⟩ = some (.int .i64 a.o.v) ∧ wr.cell? ⟨b, off + q * 6 + 5, none⟩ = some (.bool a.syn) := by
  have hlt := (h.addr' ha).2
  have hc := h.cell q a ha
  have key : ∀ i v, i < 6 → (stC a)[i]? = some v → wr.cell? ⟨b, off + q * 6 + i, none⟩ = some v := fun i v hi hv => by
    rw [hb.cell (p := ⟨b, off + q * 6 + i, none⟩) hlt, hc i hi, hv]
  exact ⟨key 0 _ (by omega) rfl, key 1 _ (by omega) rfl, key 2 _ (by omega) rfl, key 3 _ (by omega) rfl, key 4 _ (by omega) rfl, key 5 _ (by omega) rfl⟩
def litS (a : Stp) : Bool := litO a.o
theorem sall_lit {l : List Stp} (h : l.all litS = true) {q : Nat} {a : Stp} (ha : l[q]? = some a) : a.o.uid.size ≤ 60 ∧ a.o.card.size ≤ 1000 := litO_iff (List.all_eq_true.1 h a (List.mem_of_getElem? ha))
/-- Items that were told never lie where the copy lies. -/
theorem its_far {w : World} {A : Option Addr} {len cap b g : Nat} {xs : List It} {t : TypeId} {p : Option Addr} {cs : List Value} (h : Its w A len cap b 0 xs) (hl : 0 < len) (hg : Blk w g t ⟨.pointer p :: cs⟩) : b ≠ g := by
  rintro rfl
  obtain ⟨x, hx⟩ : ∃ x, xs[0]? = some x := ⟨xs[0]'(by rw [h.hlen]; exact hl), List.getElem?_eq_getElem _⟩
  have h1 := (h.cell 0 x hx).1
  have h2 := hg.cell 0
  rw [show (0 : Nat) + 0 * 4 = 0 by omega] at h1
  rw [h1] at h2
  simp at h2
/-- The copy folds: the collection stays. -/
def PT2 (t : TypeId) : Prop := t = 67 ∨ t = 103
theorem kr_kc {w w' : World} {g m B : Nat} {L : LK} {tk : Int} {mo : Bool} (hR : Cp.Rp w g m L tk mo) (k : Cp.Kr w w' g m) (hB : B ≤ w.heap.size) (hg : B ≤ g) (hm : B ≤ m) : Kc PT2 B w w' :=
  ⟨k.os, k.tape, k.output, k.size, fun j hj => k.block j (by omega) (by omega) (by omega), fun j t cs hb h1 => by
    obtain ⟨e1, e2⟩ := hR.far hb (fun e => h1 (.inl e)) (fun e => h1 (.inr e))
    exact (k.block j hb.lt e1 e2).trans hb⟩
/-- The collection is written: the copy stays. -/
theorem rp_kc {w w' : World} {g m B : Nat} {L : LK} {tk : Int} {mo : Bool} (hR : Cp.Rp w g m L tk mo) (k : Kc CT B w w') : Cp.Rp w' g m L tk mo := by
  obtain ⟨p, hp⟩ := hR.2.box
  exact ⟨k.far g _ _ hR.1 (by unfold CT; decide), hR.2.keep ((k.far m _ _ hp (by unfold CT; decide)).trans (Eq.symm hp)) (fun b cs hb => k.far b _ _ hb (by unfold CT; decide))⟩
theorem takes_fold : ∀ (xs : List It) {L : LK}, Srt L → ∀ j, getL j (Cp.takes L xs) = (xs.foldl foldH (fun u => getL u L)) j
  | [], L, _, j => rfl
  | x :: xs, L, h, j => by
    show getL j (Cp.takes (Cp.tk1 L x) xs) = _
    rw [takes_fold xs (Cp.tk1_srt h x) j, List.foldl_cons]
    have : (fun u => getL u (Cp.tk1 L x)) = foldH (fun u => getL u L) x := funext fun u => Cp.getL_tk1 h x u
    rw [this]
theorem ap_latest3 {c : Cs} (del : Bool) (uid card : ByteArray) (tok : Int) : (applyC c del uid card tok).2.latest = c.latest ∨ (applyC c del uid card tok).2.latest = tok := by
  unfold applyC
  split
  · exact .inl rfl
  · exact .inr rfl
theorem ap_v1 {c : Cs} (h : ∀ p ∈ c.L, 1 ≤ p.2.1) (del : Bool) (uid card : ByteArray) {tok : Int} (ht : 1 ≤ tok) : ∀ p ∈ (applyC c del uid card tok).2.L, 1 ≤ p.2.1 := by
  unfold applyC
  by_cases hn : noC c del uid tok = true
  · rw [if_pos hn]; exact h
  · rw [if_neg hn]
    obtain ⟨L, F, rg, mo, lm, la, ho, by_⟩ := c
    simp only at h
    have e1 : ∀ p ∈ (if del = true then delL uid L else insL uid (tok, card) L), 1 ≤ p.2.1 := by
      intro p hp
      split at hp
      · exact h p (delL_sub.subset hp)
      · rcases insL_mem hp with rfl | hp
        · exact ht
        · exact h p hp
    unfold yesC rpush
    simp only
    by_cases hf : (rg.length : Int) < lm
    · rw [if_pos hf]; exact e1
    · rw [if_neg hf]; exact e1
theorem wf_t {t : Int} (h1 : 0 ≤ t) (h2 : t ≤ 2000000000000) : wf t := by unfold wf; simp [Lit.wf, IntKind.min, IntKind.max, IntKind.signed, IntKind.bits]; omega
/-- What is told may be folded. -/
theorem told_ok {k : Nat} {c : Cs} {R : Rs} (hs : Sim c R) (hi : Inv k c) (hk : KV R.log R.L) (hv : ∀ p ∈ c.L, 1 ≤ p.2.1) {N : Int} (hN : N = 0 ∨ 1 ≤ N) {ys : List It} (h : Sin c N ys) : (ys.map It.u).Nodup ∧ ∀ t ∈ ys, (1 ≤ t.v ∧ (N = 0 ∨ N < t.v)) ∧ t.u.size ≤ 1000 := by
  constructor
  · rw [(h.1.map It.u).nodup_iff]
    unfold List.Nodup
    rw [List.pairwise_map]
    refine (sin_ul hi N).imp fun {a b} hab e => ?_
    unfold Ul at hab
    rw [e, klt_irr] at hab
    cases hab
  · intro t ht
    have hm := h.1.mem_iff.1 ht
    by_cases h0 : N = 0
    · unfold sin0 at hm
      rw [if_pos h0] at hm
      unfold itsK at hm
      obtain ⟨p, hp, rfl⟩ := List.mem_map.1 hm
      exact ⟨⟨hv p hp, .inl h0⟩, (hi.kl p hp).1⟩
    · have h1 := ((sin_last hs hi hk h0 h).1 t ht).2.1
      refine ⟨⟨by omega, .inr h1⟩, ?_⟩
      unfold sin0 at hm
      rw [if_neg h0] at hm
      unfold chgL at hm
      obtain ⟨p, hp, rfl⟩ := List.mem_map.1 hm
      rw [chgI_u]
      have h2 := lastL_mem hp
      rw [List.mem_reverse] at h2
      unfold ord at h2
      rcases List.mem_append.1 h2 with h2 | h2
      · exact hi.kr _ (List.mem_of_mem_drop h2)
      · exact hi.kr _ (List.mem_of_mem_take h2)
/-- The copy beside the collection, behind q steps. -/
structure Cpy (c : Cs) (R : Rs) (N : Int) (L : LK) (q : Nat) : Prop where
  srt : Srt L
  len : L.length ≤ 40 * q
  at_ : N = 0 ∨ (1 ≤ N ∧ N ≤ c.latest ∧ Agr R.log R.horizon R.L N (fun u => getL u L))
  v1 : ∀ p ∈ c.L, 1 ≤ p.2.1
  l1 : 1 ≤ c.latest
section
variable {k q : Nat} {c : Cs} {R : Rs} {N t : Int} {L : LK}
theorem Cpy.nn (h : Cpy c R N L q) : N = 0 ∨ 1 ≤ N := h.at_.imp id (·.1)
theorem Cpy.le (h : Cpy c R N L q) : N ≤ c.latest := by rcases h.at_ with e | e; have := h.l1; omega; exact e.2.1
theorem Cpy.ap (h : Cpy c R N L q) (hg : Gh k c R t) (del : Bool) (uid card : ByteArray) (ht : 0 ≤ t) : Cpy (applyC c del uid card (t + 1)).2 (rAp R del uid card (t + 1)).2 N L q := by
  have hla := hg.la
  have hle := h.le
  have h1 := h.l1
  refine ⟨h.srt, h.len, ?_, ap_v1 h.v1 _ _ _ (by omega), by rcases ap_latest3 (c := c) del uid card (t + 1) with e | e <;> rw [e]; exact h.l1; omega⟩
  rcases h.at_ with e | ⟨e1, e2, e3⟩
  · exact .inl e
  · refine .inr ⟨e1, by rcases ap_latest3 (c := c) del uid card (t + 1) with e | e <;> rw [e]; exact e2; omega, agr_ap hg.sim hg.inv e3 del uid card (t + 1) (by omega)⟩
theorem Cpy.up (h : Cpy c R N L q) : Cpy c R N L (q + 1) := ⟨h.srt, by have := h.len; omega, h.at_, h.v1, h.l1⟩
/-- The token is too old: it begins anew. -/
theorem Cpy.bad (h : Cpy c R N L q) (hb : BadT c N) : ¬ c.horizon ≤ N ∧ Cpy c R 0 [] (q + 1) := by
  refine ⟨?_, List.Pairwise.nil, Nat.zero_le _, .inl rfl, h.v1, h.l1⟩
  have := h.le
  rcases hb.2 with e | e <;> omega
theorem fold_bad (mo : Bool) (xs : List It) : Cp.foldR ⟨L, N, mo⟩ N 8 8 0 false xs = ⟨[], 0, false⟩ ∧ Cp.foldE ⟨L, N, mo⟩ N 8 8 0 xs = 0 := by
  unfold Cp.foldR Cp.foldE
  rw [if_neg (by simp), if_pos rfl, if_neg (by simp), if_pos rfl]
  exact ⟨rfl, rfl⟩
theorem fold_ok (mo more : Bool) {tok : Int} {xs : List It} (hf : Cp.folB N tok xs = true) : Cp.foldR ⟨L, N, mo⟩ N 8 0 tok more xs = ⟨Cp.takes (if N = 0 then [] else L) xs, tok, more⟩ ∧ Cp.foldE ⟨L, N, mo⟩ N 8 0 tok xs = 0 := by
  constructor
  · unfold Cp.foldR
    rw [if_neg (by simp), if_neg (by decide), if_neg (by decide), if_pos hf]
  · unfold Cp.foldE
    rw [if_neg (by simp), if_neg (by decide), if_neg (by decide), if_pos hf]
/-- All that was told. -/
theorem Cpy.full (h : Cpy c R N L q) (hg : Gh k c R t) (hk : k ≤ 40 * (q + 1)) (hb : ¬ BadT c N) {ys : List It} (hs : Sin c N ys) : Cp.folB N c.latest ys = true ∧ Cp.takes (if N = 0 then [] else L) ys = c.L ∧ Cpy c R c.latest c.L (q + 1) := by
  obtain ⟨t1, t2⟩ := told_ok hg.sim hg.inv hg.kv h.v1 h.nn hs
  refine ⟨?_, ?_, hg.inv.srt, Nat.le_trans hg.inv.n hk, .inr ⟨h.l1, Int.le_refl _, fun _ u _ => by rw [hg.sim.L]⟩, h.v1, h.l1⟩
  · unfold Cp.folB
    rw [decide_eq_true h.le, Cp.okTo_iff.2 ⟨t1, fun t ht => (t2 t ht).1⟩]; rfl
  · by_cases h0 : N = 0
    · rw [if_pos h0]
      rw [h0] at hs
      refine srt_ext (Cp.takes_srt List.Pairwise.nil) hg.inv.srt (fun u => ?_)
      rw [takes_fold ys List.Pairwise.nil u]
      exact page_zero hg.inv hs u
    · rw [if_neg h0]
      obtain ⟨e1, e2, e3⟩ := h.at_.resolve_left h0
      refine srt_ext (Cp.takes_srt h.srt) hg.inv.srt (fun u => ?_)
      rw [takes_fold ys h.srt u]
      exact page_full hg.sim hg.inv hg.kv h0 hs e3 (by rw [hg.sim.ho]; exact ((badT_no hb).resolve_left h0).1) u
/-- A first part of it. -/
theorem Cpy.cut (h : Cpy c R N L q) (hg : Gh k c R t) (hk : k ≤ 40) (hb : ¬ BadT c N) (h0 : N ≠ 0) {ys : List It} (hs : Sin c N ys) {most : Int} {n p : Nat} (hn : spl (ys.map It.v) most = n) (hnl : n < ys.length) (hp : n = p + 1) {x : It} (hx : ys[p]? = some x) : Cp.folB N x.v (ys.take n) = true ∧ Cpy c R x.v (Cp.takes (if N = 0 then [] else L) (ys.take n)) (q + 1) := by
  obtain ⟨t1, t2⟩ := told_ok hg.sim hg.inv hg.kv h.v1 h.nn hs
  obtain ⟨e1, e2, e3⟩ := h.at_.resolve_left h0
  obtain ⟨p1, p2, p3⟩ := page_cut hg.sim hg.inv hg.kv h0 hs e3 (by rw [hg.sim.ho]; exact ((badT_no hb).resolve_left h0).1) hn hnl hp hx
  have hl := sin0_len hg.inv N
  rw [← hs.1.length_eq] at hl
  rw [if_neg h0]
  refine ⟨?_, Cp.takes_srt h.srt, ?_, .inr ⟨by omega, hg.sim.la ▸ p3, ?_⟩, h.v1, h.l1⟩
  · unfold Cp.folB
    rw [decide_eq_true (show N ≤ x.v by omega), Cp.okTo_iff.2 ⟨t1.sublist ((List.take_sublist n ys).map It.u), fun t ht => (t2 t (List.mem_of_mem_take ht)).1⟩]; rfl
  · have := Cp.takes_len (xs := ys.take n) h.srt
    have := h.len
    rw [List.length_take] at *
    omega
  · rw [funext (takes_fold (ys.take n) h.srt)]
    exact p1
end
end Go.Proofs.Ytpmgabeefppajaa
namespace Go.Proofs.Ytpmgabeefppajaa
open Go.RowKit
open Go.Lib
open Go.Proofs.Sp
open Go.Shelf
set_option linter.unusedVariables false
set_option linter.unusedSimpArgs false
set_option maxRecDepth 100000
set_option maxHeartbeats 16000000 in
theorem replicaCol_walk (w : World) (a0 : Int) (w0 : (Lit.int .i64 a0).wf = true) (a1 : Int) (w1 : (Lit.int .i64 a1).wf = true) (a2 : Int) (w2 : (Lit.int .i64 a2).wf = true) (A3 : Option Addr) (len3 cap3 : Nat) (S3 : Sh.ok w (Sh.slice 6 (Sh.agg 6 [(0, 5, (Sh.agg 5 [(0, 1, Sh.bool), (1, 1, Sh.str), (2, 1, Sh.str), (3, 2, (Sh.agg 2 [(0, 1, (Sh.int .i64)), (1, 1, (Sh.int .i64))]))])), (5, 1, Sh.bool)])) [.slice A3 len3 cap3]) (a4 : Int) (w4 : (Lit.int .i64 a4).wf = true) :
    Calls Try.prog 7 #[.int .i64 a0, .int .i64 a1, .int .i64 a2, .slice A3 len3 cap3, .int .i64 a4] w fun e w' => e = .returned (.bool true) ∧ Below w.heap.size w w' := by
  obtain ⟨b3, off3, la, hA⟩ := Sts_open S3
  have HA := Lib.hid hA
  clear S3 hA w0 w1 w2 w4
  go_enter Try.func7, Try.ntmps7
  go_wp2_with fail
  refine (Cp.first_any w).mono ?_
  rintro _ w1 ⟨rfl, hb⟩
  have HB1 := Lib.hid hb
  clear hb
  have hA3 := HA.out.hlen
  have hA3c := HA.out.le
  by_cases n0 : (len3 : Int) > 40
  · have n0b : (40 : Int) < len3 := n0
    go_wp2_with fail
    refine (Cp.first_any w1).mono ?_
    rintro _ wq ⟨rfl, hb⟩
    have HBQ := Lib.hid (HB1.out.trans (hb.mono HB1.out.size))
    clear hb
    go_wp2
    go_ret
    exact ⟨rfl, HBQ.out⟩
  by_cases h1 : a0 < 1
  · have HFX := Lib.hid h1
    go_wp2_with fail
    refine (Cp.first_any w1).mono ?_
    rintro _ wq ⟨rfl, hb⟩
    have HBQ := Lib.hid (HB1.out.trans (hb.mono HB1.out.size))
    clear hb
    go_wp2
    go_ret
    exact ⟨rfl, HBQ.out⟩
  by_cases h2 : a0 > 1099511627776
  · have h2b : (1099511627776 : Int) < a0 := h2
    go_wp2_with fail
    refine (Cp.first_any w1).mono ?_
    rintro _ wq ⟨rfl, hb⟩
    have HBQ := Lib.hid (HB1.out.trans (hb.mono HB1.out.size))
    clear hb
    go_wp2
    go_ret
    exact ⟨rfl, HBQ.out⟩
  have hnI : (len3 : Int) ≤ 40 := by omega
  have hb1 : (1 : Int) ≤ a0 := by omega
  have hb2 : a0 ≤ 1099511627776 := by omega
  clear n0 h1 h2
  go_wp2
  go_loopw [11] (fun i wr => ∃ q : Nat, q ≤ len3 ∧ i = .int .i64 (q : Int) ∧ (la.take q).all litS = true ∧ Below w.heap.size w wr) (fun i _ => len3 - (intOf i).toNat)
  case atStart => exact ⟨0, Nat.zero_le _, rfl, by simp, HB1.out⟩
  case round =>
    obtain ⟨q, hq, rfl, hall, hB⟩ := hrel
    have HB := Lib.hid hB
    have HAL := Lib.hid hall
    clear hB hall
    by_cases hql : q < len3
    · obtain ⟨a, ha⟩ : ∃ a, la[q]? = some a := ⟨la[q]'(by rw [HA.out.hlen]; exact hql), List.getElem?_eq_getElem _⟩
      obtain ⟨rfl, hbl⟩ := HA.out.addr' ha
      have HSN := Lib.hid (aall_snoc litS la q a ha)
      have hat := HA.out.at_ HB.out ha
      obtain ⟨⟨d, u, c, k, v⟩, syn⟩ := a
      obtain ⟨-, a1', a2', -⟩ := hat
      simp only at a1' a2'
      have hqI : (q : Int) < (len3 : Int) := by omega
      have hqc : q < cap3 := by omega
      clear ha
      by_cases hu : (u.size : Int) > 60
      · clear HSN
        go_wp2_with fail
        refine (Cp.first_any wr).mono ?_
        rintro _ wq ⟨rfl, hb⟩
        have HBQ := Lib.hid (HB.out.trans (hb.mono HB.out.size))
        clear hb
        go_wp2
        go_ret
        exact ⟨rfl, HBQ.out⟩
      by_cases hc : (c.size : Int) > 1000
      · clear HSN
        go_wp2_with fail
        refine (Cp.first_any wr).mono ?_
        rintro _ wq ⟨rfl, hb⟩
        have HBQ := Lib.hid (HB.out.trans (hb.mono HB.out.size))
        clear hb
        go_wp2
        go_ret
        exact ⟨rfl, HBQ.out⟩
      have HN := Lib.hid (show (la.take (q + 1)).all litS = true by rw [HSN.out, HAL.out, Bool.true_and]; unfold litS litO; simp only; rw [decide_eq_true (show c.size ≤ 1000 by omega), decide_eq_true (show u.size ≤ 60 by omega)]; rfl)
      clear HSN
      go_wp2
      go_roundw
      case rel => exact ⟨q + 1, by omega, by go_num, HN.out, HB.out⟩
      case measure => (simp [intOf] <;> omega)
    · obtain ⟨q, rfl⟩ : ∃ j, q = j := ⟨_, rfl⟩
      have hqn : ¬ (q : Int) < (len3 : Int) := by omega
      have HFL := Lib.hid (show la.all litS = true by have := HAL.out; rw [List.take_of_length_le (by omega)] at this; exact this)
      clear HAL
      obtain ⟨wf, hwf⟩ : ∃ W, W = wr := ⟨_, rfl⟩
      subst hwf
      have HCN := Lib.hid (cl_new a0 a1 a2 wf wf.heap.size (Nat.le_refl _))
      have HG0 := Lib.hid (gh_new a0 a1 a2)
      have HY0 := Lib.hid (show Cpy (newC a0 a1 a2) (rnewC a0 a1 a2) 0 [] 0 from ⟨List.Pairwise.nil, Nat.le_refl _, .inl rfl, (fun p h => by cases h), hb1⟩)
      obtain ⟨c0, hc0⟩ : ∃ c, newC a0 a1 a2 = c := ⟨_, rfl⟩
      obtain ⟨R0, hR0⟩ : ∃ c, rnewC a0 a1 a2 = c := ⟨_, rfl⟩
      rw [hc0] at HCN HG0 HY0
      rw [hR0] at HG0 HY0
      clear hc0 hR0
      go_wp2_with fail
      refine HCN.out.mono ?_
      rintro _ w4 ⟨g, rfl, k1, k2, -⟩
      have HC4 := Lib.hid k1
      have HB4 := Lib.hid k2
      clear k1 k2 HCN
      go_wp2_with fail
      refine (Cp.rp_new w4).mono ?_
      rintro _ w5 ⟨r, m0, rfl, hr, hb5, hrg, hm0⟩
      have HC5 := Lib.hid (HC4.out.on hb5)
      have HR5 := Lib.hid hr
      have HB5 := Lib.hid (HB4.out.trans (hb5.mono HB4.out.size))
      have HRB := Lib.hid (Nat.le_trans HB4.out.size hrg)
      have HM0 := Lib.hid (Nat.le_trans HB4.out.size hm0)
      clear hr hb5 hrg hm0
      go_wp2
      go_loopw [14, 15] (fun t i wr => ∃ (q : Nat) (c : Cs) (R : Rs) (tv : Int) (m : Nat) (N : Int) (L : LK) (mo : Bool), q ≤ len3 ∧ i = .int .i64 (q : Int) ∧ t = .int .i64 tv ∧ (a0 ≤ tv ∧ tv ≤ a0 + q) ∧ Gh q c R tv ∧ Cpy c R N L q ∧ Cl wr wf.heap.size g c ∧ Cp.Rp wr r m L N mo ∧ wf.heap.size ≤ m ∧ Below wf.heap.size wf wr) (fun _ i _ => len3 - (intOf i).toNat)
      case atStart => exact ⟨0, c0, R0, a0, m0, 0, [], false, Nat.zero_le _, rfl, rfl, ⟨Int.le_refl _, by omega⟩, HG0.out, HY0.out, HC5.out, HR5.out, HM0.out, HB5.out⟩
      case round =>
        obtain ⟨q, c, R, tv, m, N, L, mo, hq, rfl, rfl, ⟨ht0, ht1⟩, hgh, hcy, hcl, hrp, hmB, hbl⟩ := hrel
        have HGH := Lib.hid hgh
        have HCY := Lib.hid hcy
        have HCL := Lib.hid hcl
        have HRP := Lib.hid hrp
        have HMB := Lib.hid hmB
        have HBL := Lib.hid hbl
        clear hgh hcy hcl hrp hmB hbl
        by_cases hql : q < len3
        · obtain ⟨a, ho⟩ : ∃ o, la[q]? = some o := ⟨la[q]'(by rw [HA.out.hlen]; exact hql), List.getElem?_eq_getElem _⟩
          have HLO := Lib.hid (sall_lit HFL.out ho)
          obtain ⟨rfl, hb3⟩ := HA.out.addr' ho
          have HBB := Lib.hid (HB.out.trans (HBL.out.mono HB.out.size))
          obtain ⟨c0, c1, c2, c3, c4, -⟩ := HA.out.at_ HBB.out ho
          have HA5 := Lib.hid (fun (W : World) (hb : Below w.heap.size w W) => (HA.out.at_ hb ho).2.2.2.2.2)
          have HGN := Lib.hid (HGH.out.ap a.o.del a.o.uid a.o.card (by have := HLO.out.1; omega) (by have := HLO.out.2; omega) (wf_t (by omega) (by omega)))
          have HYN := Lib.hid (HCY.out.ap HGH.out a.o.del a.o.uid a.o.card (by omega))
          have HAP := Lib.hid (apply_any HCL.out HBL.out.size (HGH.out.inv.cz (by omega)) a.o.del a.o.uid a.o.card a.o.k a.o.v (tv + 1) (by have := HLO.out.2; omega))
          have hqI : (q : Int) < (len3 : Int) := by omega
          have hqc : q < cap3 := by omega
          obtain ⟨⟨d, u, cd, k', v⟩, syn⟩ := a
          simp only at c0 c1 c2 c3 c4 HAP HGN HYN HA5
          clear ho hb3
          obtain ⟨rr, hrr⟩ : ∃ r, applyC c d u cd (tv + 1) = r := ⟨_, rfl⟩
          obtain ⟨R', hR'⟩ : ∃ r, (rAp R d u cd (tv + 1)).2 = r := ⟨_, rfl⟩
          rw [hrr] at HAP HGN HYN
          rw [hR'] at HGN HYN
          obtain ⟨rb, c'⟩ := rr
          simp only at HAP HGN HYN
          clear hrr hR'
          go_wp2_with fail
          refine HAP.out.mono ?_
          rintro _ w7 ⟨rfl, k1, k2⟩
          have HC7 := Lib.hid k1
          have HR7 := Lib.hid (rp_kc HRP.out k2)
          have HB7 := Lib.hid (HBL.out.trans k2.below)
          have c5 := HA5.out w7 (HB.out.trans (HB7.out.mono HB.out.size))
          try simp only at c5
          clear k1 k2 HAP c0 c1 c2 c3 c4 HA5
          cases syn with
          | false =>
            go_wp2
            go_roundw
            case rel => exact ⟨q + 1, c', R', tv + 1, m, N, L, mo, by omega, by go_num, by first | rfl | go_num, ⟨by omega, by omega⟩, HGN.out, HYN.out.up, HC7.out, HR7.out, HMB.out, HB7.out⟩
            case measure => (simp [intOf] <;> omega)
          | true =>
            have HTK := Lib.hid (Cp.rp_token HR7.out)
            have HPG := Lib.hid (cpage_any HC7.out HGN.out.inv (by omega) HGN.out.wfc N a4)
            have hLl : L.length ≤ 30000 := by have := HYN.out.len; omega
            go_wp2_with fail
            refine HTK.out.mono ?_
            rintro _ wx ⟨rfl, hw⟩
            replace hw := hw.symm
            subst hw
            clear HTK
            by_cases hbad : BadT c' N
            · have HYB := Lib.hid (HYN.out.bad hbad)
              have hE : errC c' N = 8 := if_pos hbad
              have hPB := (pg_bad hbad a4).2.2
              rw [hE] at HPG
              have HTN := Lib.hid (fun ys (h : TellC c' N ys) => show ys = [] by unfold TellC at h; rwa [if_pos hbad] at h)
              have hlt : ¬ c'.horizon ≤ N := HYB.out.1
              have hlt2 : N < c'.horizon := by omega
              go_wp2_with fail
              refine HPG.out.mono ?_
              rintro _ w9 ⟨A5, n5, cap5, b5, ys, ht, rfl, hI, hb⟩
              have hys := HTN.out ys ht
              subst hys
              rw [hPB] at hI ⊢
              simp only at hI ⊢
              have hn5 : n5 = 0 := by have := hI.hlen; simpa using this.symm
              subst hn5
              have HC9 := Lib.hid (HC7.out.on hb)
              have HR9 := Lib.hid (HR7.out.below hb)
              have HB9 := Lib.hid (HB7.out.trans (hb.mono HB7.out.size))
              have HHO := Lib.hid (cl_horizon HC9.out)
              have HF := Lib.hid (Cp.fold_any HR9.out hI (fun e => absurd e (by omega)) (by omega) hLl (fun t h => by cases h) N 8 8 0 0 { data := #[] } 0 false _ (fold_bad mo []).1 0 (fold_bad mo []).2)
              clear ht hI hb HPG hE hPB HTN hbad
              go_wp2_with fail
              refine HHO.out.mono ?_
              rintro _ wx ⟨rfl, hw⟩
              replace hw := hw.symm
              subst hw
              go_wp2_with fail
              refine HF.out.mono ?_
              rintro _ w10 ⟨rfl, m1, k1, k2, k3⟩
              have HR10 := Lib.hid k1
              have HKC := Lib.hid (kr_kc HR9.out k2 HB9.out.size HRB.out HMB.out)
              have HC10 := Lib.hid (HC9.out.keep HKC.out (by unfold PT2; decide) (by unfold PT2; decide) (by unfold PT2; decide) (by unfold PT2; decide) (by unfold PT2; decide))
              have HB10 := Lib.hid (HB9.out.trans HKC.out.below)
              have HM1 := Lib.hid (show wf.heap.size ≤ m1 by rcases k3 with e | e; rw [e]; exact HMB.out; exact Nat.le_trans HB9.out.size e)
              clear k1 k2 k3 HF HHO
              go_wp2
              go_roundw
              case rel => exact ⟨q + 1, c', R', tv + 1, m1, 0, [], false, by omega, by go_num, by first | rfl | go_num, ⟨by omega, by omega⟩, HGN.out, HYB.out.2, HC10.out, HR10.out, HM1.out, HB10.out⟩
              case measure => (simp [intOf] <;> omega)
            · have HNB := Lib.hid hbad
              have hE : errC c' N = 0 := if_neg hbad
              rw [hE] at HPG
              clear hE hbad
              go_wp2_with fail
              refine HPG.out.mono ?_
              rintro _ w9 ⟨A5, n5, cap5, b5, ys, ht, rfl, hI, hb⟩
              have HS := Lib.hid (show Sin c' N ys by unfold TellC at ht; rwa [if_neg HNB.out] at ht)
              have hyl : ys.length ≤ 40 := by rw [HS.out.1.length_eq]; have := sin0_len HGN.out.inv N; omega
              have HUS := Lib.hid (told_ok HGN.out.sim HGN.out.inv HGN.out.kv HYN.out.v1 HYN.out.nn HS.out).2
              have HC9 := Lib.hid (HC7.out.on hb)
              have HR9 := Lib.hid (HR7.out.below hb)
              have HB9 := Lib.hid (HB7.out.trans (hb.mono HB7.out.size))
              obtain ⟨pb, hpb⟩ := HR9.out.2.box
              have HBX := Lib.hid hpb
              clear ht HPG hb hpb
              by_cases hfull : N = 0 ∨ spl (ys.map It.v) a4 = ys.length
              · obtain ⟨f1, f2, f3⟩ := HYN.out.full HGN.out (by omega) HNB.out HS.out
                have hfo := fold_ok (L := L) mo false f1
                rw [f2] at hfo
                have HY3 := Lib.hid f3
                rw [pg_full HNB.out hfull] at hI ⊢
                simp only at hI ⊢
                have hn5 : n5 ≤ 40 := by have := hI.hlen; omega
                have HF := Lib.hid (Cp.fold_any HR9.out hI (fun e => ⟨its_far hI e HR9.out.1, its_far hI e HBX.out⟩) (by omega) hLl (fun t h => by have := (HUS.out t h).2; omega) N 8 0 c'.latest 0 { data := #[] } 0 false _ hfo.1 0 hfo.2)
                clear hI f1 f2 f3 hfo hfull
                have HKL := Lib.hid (HGN.out.inv.fit (by omega))
                have HcL := Lib.hid HGN.out.inv.n
                obtain ⟨lt, hlt⟩ : ∃ x, c'.latest = x := ⟨_, rfl⟩
                have HLT := Lib.hid hlt
                rw [hlt] at HF HY3 ⊢
                clear hlt
                have hne : (lt != lt) = false := by simp
                go_wp2_with fail
                refine HF.out.mono ?_
                rintro _ w10 ⟨rfl, m1, k1, k2, k3⟩
                try simp only at k1
                have HR10 := Lib.hid k1
                have HKC := Lib.hid (kr_kc HR9.out k2 HB9.out.size HRB.out HMB.out)
                have HC10 := Lib.hid (HC9.out.keep HKC.out (by unfold PT2; decide) (by unfold PT2; decide) (by unfold PT2; decide) (by unfold PT2; decide) (by unfold PT2; decide))
                have HB10 := Lib.hid (HB9.out.trans HKC.out.below)
                have HM1 := Lib.hid (show wf.heap.size ≤ m1 by rcases k3 with e | e; rw [e]; exact HMB.out; exact Nat.le_trans HB9.out.size e)
                clear k1 k2 k3 HF HKC
                have HT1 := Lib.hid (Cp.rp_token HR10.out)
                have HT2 := Lib.hid (cl_latest HC10.out)
                rw [HLT.out] at HT2
                have HCD := Lib.hid (Cp.cards_its HR10.out (by have := HcL.out; omega) HKL.out.kl)
                go_wp2_with fail
                refine HT1.out.mono ?_
                rintro _ wx ⟨rfl, hw⟩
                replace hw := hw.symm
                subst hw
                go_wp2_with fail
                refine HT2.out.mono ?_
                rintro _ wx ⟨rfl, hw⟩
                replace hw := hw.symm
                subst hw
                go_wp2_with fail
                refine HCD.out.mono ?_
                rintro _ w11 ⟨A6, cap6, b6, rfl, hI6, hb, -⟩
                have HI6 := Lib.hid (show Its w11 A6 (itsK c'.L).length cap6 b6 0 (itsK c'.L) by rw [itsK_len]; exact hI6)
                have HC11 := Lib.hid (HC10.out.on hb)
                have HR11 := Lib.hid (HR10.out.below hb)
                have HB11 := Lib.hid (HB10.out.trans (hb.mono HB10.out.size))
                have HLV := Lib.hid (live_any HC11.out HKL.out.hl HKL.out.kl)
                rw [← itsK_len] at HLV ⊢
                clear hI6 hb HCD HT1 HT2
                go_wp2_with fail
                refine HLV.out.mono ?_
                rintro _ w12 ⟨U, rfl, k1, hb⟩
                obtain ⟨A7, cap7, b7, rfl, hI7, -⟩ := own_its2 k1
                have HAL := Lib.hid (alike_any (HI6.out.below hb (fun e => (HI6.out.addr e).2)) hI7 (by rw [itsK_len]; have := HcL.out; omega))
                have HC12 := Lib.hid (HC11.out.on hb)
                have HR12 := Lib.hid (HR11.out.below hb)
                have HB12 := Lib.hid (HB11.out.trans (hb.mono HB11.out.size))
                clear k1 hI7 hb HLV
                go_wp2_with fail
                refine HAL.out.mono ?_
                rintro _ w13 ⟨rfl, hb⟩
                have HC13 := Lib.hid (HC12.out.on hb)
                have HR13 := Lib.hid (HR12.out.below hb)
                have HB13 := Lib.hid (HB12.out.trans (hb.mono HB12.out.size))
                clear hb HAL
                go_wp2
                go_roundw
                case rel => exact ⟨q + 1, c', R', tv + 1, m1, lt, c'.L, false, by omega, by go_num, by first | rfl | go_num, ⟨by omega, by omega⟩, HGN.out, HY3.out, HC13.out, HR13.out, HM1.out, HB13.out⟩
                case measure => (simp [intOf] <;> omega)
              · have hn0 : N ≠ 0 := fun e => hfull (.inl e)
                have hnf : ¬ spl (ys.map It.v) a4 = ys.length := fun e => hfull (.inr e)
                have hsp := spl_in (ys.map It.v) a4
                rw [List.length_map] at hsp
                have hsp2 := hsp.resolve_left hnf
                obtain ⟨n, hn⟩ : ∃ n, spl (ys.map It.v) a4 = n := ⟨_, rfl⟩
                rw [hn] at hsp2
                obtain ⟨p, hp⟩ : ∃ p, n = p + 1 := ⟨n - 1, by omega⟩
                obtain ⟨t, htt⟩ : ∃ t, ys[p]? = some t := ⟨ys[p]'(by omega), List.getElem?_eq_getElem _⟩
                obtain ⟨f1, f3⟩ := HYN.out.cut HGN.out (by omega) HNB.out hn0 HS.out hn hsp2.2 hp htt
                have hfo := fold_ok (L := L) mo true f1
                have HY3 := Lib.hid f3
                rw [pg_cut HNB.out hn0 hn (by omega) hp htt] at hI ⊢
                simp only at hI ⊢
                have hn5 : n5 ≤ 40 := by have := hI.hlen; rw [List.length_take] at this; omega
                have HF := Lib.hid (Cp.fold_any HR9.out hI (fun e => ⟨its_far hI e HR9.out.1, its_far hI e HBX.out⟩) (by omega) hLl (fun t h => by have := (HUS.out t (List.mem_of_mem_take h)).2; omega) N 8 0 t.v 0 { data := #[] } 0 true _ hfo.1 0 hfo.2)
                obtain ⟨v5, hv5⟩ : ∃ v, t.v = v := ⟨_, rfl⟩
                rw [hv5] at HF HY3 ⊢
                obtain ⟨L5, hL5⟩ : ∃ l, Cp.takes (if N = 0 then [] else L) (ys.take n) = l := ⟨_, rfl⟩
                rw [hL5] at HF HY3
                clear hI f1 f3 hfo hfull hnf hsp hsp2 hp htt hv5 hL5
                go_wp2_with fail
                refine HF.out.mono ?_
                rintro _ w10 ⟨rfl, m1, k1, k2, k3⟩
                try simp only at k1
                have HR10 := Lib.hid k1
                have HKC := Lib.hid (kr_kc HR9.out k2 HB9.out.size HRB.out HMB.out)
                have HC10 := Lib.hid (HC9.out.keep HKC.out (by unfold PT2; decide) (by unfold PT2; decide) (by unfold PT2; decide) (by unfold PT2; decide) (by unfold PT2; decide))
                have HB10 := Lib.hid (HB9.out.trans HKC.out.below)
                have HM1 := Lib.hid (show wf.heap.size ≤ m1 by rcases k3 with e | e; rw [e]; exact HMB.out; exact Nat.le_trans HB9.out.size e)
                clear k1 k2 k3 HF HKC
                go_wp2
                go_roundw
                case rel => exact ⟨q + 1, c', R', tv + 1, m1, v5, L5, true, by omega, by go_num, by first | rfl | go_num, ⟨by omega, by omega⟩, HGN.out, HY3.out, HC10.out, HR10.out, HM1.out, HB10.out⟩
                case measure => (simp [intOf] <;> omega)
        · obtain ⟨q, rfl⟩ : ∃ j, q = j := ⟨_, rfl⟩
          have hqn2 : ¬ (q : Int) < (len3 : Int) := by omega
          have HT1 := Lib.hid (Cp.rp_token HRP.out)
          have HT2 := Lib.hid (cl_latest HCL.out)
          have hle : N ≤ c.latest := HCY.out.le
          obtain ⟨lt, hlt⟩ : ∃ x, c.latest = x := ⟨_, rfl⟩
          rw [hlt] at HT2 hle
          clear hlt
          go_wp2_with fail
          refine HT1.out.mono ?_
          rintro _ wx ⟨rfl, hw⟩
          replace hw := hw.symm
          subst hw
          go_wp2_with fail
          refine HT2.out.mono ?_
          rintro _ wx ⟨rfl, hw⟩
          replace hw := hw.symm
          subst hw
          go_wp2
          go_ret
          exact ⟨rfl, HB.out.trans (HBL.out.mono HB.out.size)⟩
end Go.Proofs.Ytpmgabeefppajaa
