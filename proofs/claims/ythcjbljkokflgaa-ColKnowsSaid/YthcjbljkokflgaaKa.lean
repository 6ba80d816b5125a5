/- ColKnows. -/
import Derived.Test.YthcjbljkokflgaaYc
set_option linter.unnecessarySimpa false
/- What Since tells of each card (maths). -/
namespace Go.Proofs.Ythcjbljkokflgaa
open Go.RowKit
open Go.Lib
set_option linter.unusedVariables false
set_option linter.unusedSimpArgs false
set_option maxRecDepth 100000
/-- A card that was written while the log remembers has its last change's token. -/
def KV (log : List Chg) (L : LK) : Prop := ∀ u x y, log.reverse.find? (fun c => decide (c.2 = u)) = some x → getL u L = some y → y.1 = x.1
theorem find_prefix {p : Chg → Bool} {A B : List Chg} {x : Chg} (h : A.find? p = some x) : (A ++ B).find? p = some x := by rw [List.find?_append, h]; rfl
theorem KV.drop {log : List Chg} {L : LK} (h : KV log L) : KV (log.drop 1) L := fun u x y h1 h2 => by
  cases log with
  | nil => exact h u x y h1 h2
  | cons c log =>
    refine h u x y ?_ h2
    rw [List.reverse_cons]
    exact find_prefix h1
theorem putL_get {L : LK} (hs : Srt L) (del : Bool) (uid card : ByteArray) (tok : Int) (u : ByteArray) : getL u (putL L del uid card tok) = if u = uid then (if del = true then none else some (tok, card)) else getL u L := by
  unfold putL
  cases del with
  | true => rw [if_pos rfl, getL_del]; rfl
  | false => rw [if_neg (by decide), getL_ins hs]; rfl
theorem KV.add {log : List Chg} {L : LK} (h : KV log L) (hs : Srt L) (del : Bool) (uid card : ByteArray) (tok : Int) : KV (log ++ [(tok, uid)]) (putL L del uid card tok) := fun u x y h1 h2 => by
  rw [List.reverse_append, List.reverse_singleton, List.singleton_append] at h1
  rw [putL_get hs] at h2
  by_cases e : u = uid
  · rw [List.find?_cons_of_pos (by simp [e])] at h1
    cases h1
    rw [if_pos e] at h2
    cases del with
    | true => cases h2
    | false => cases h2; rfl
  · rw [List.find?_cons_of_neg (by simpa using fun e2 => e e2.symm)] at h1
    rw [if_neg e] at h2
    exact h u x y h1 h2
theorem kv_ap {k : Nat} {c : Cs} {R : Rs} (h : Sim c R) (hi : Inv k c) (hk : KV R.log R.L) (del : Bool) (uid card : ByteArray) (tok : Int) : KV (rAp R del uid card tok).2.log (rAp R del uid card tok).2.L := by
  unfold rAp
  by_cases hn : rNo R del uid tok = true
  · rw [if_pos hn]; exact hk
  · rw [if_neg hn]
    have hs : Srt R.L := by rw [h.L]; exact hi.srt
    have hr := rRow_eq hs del uid card tok (fun e => by
      cases hth : (getL uid R.L).isSome with
      | true => rfl
      | false => exact absurd (by unfold rNo; rw [e, hth]; simp) hn)
    have ha := hk.add hs del uid card tok
    rw [← hr] at ha
    show KV (rLog { R with L := rRow R.L del uid card tok } (tok, uid)).log (rLog { R with L := rRow R.L del uid card tok } (tok, uid)).L
    unfold rLog
    split
    · exact ha.drop
    · exact ha
theorem kv_made : ∀ (l : List Ak), (∀ a ∈ l, litA a = true) → ∀ (k : Nat) (c : Cs) (R : Rs), Sim c R → Inv k c → KV R.log R.L → KV (l.foldl apR R).log (l.foldl apR R).L
  | [], _, k, c, R, _, _, h => h
  | a :: l, hl, k, c, R, hs, hi, h => by
    have ha := litO_iff (hl a List.mem_cons_self)
    obtain ⟨_, s2, s3⟩ := sim_apply hs hi a.o.del a.o.uid a.o.card a.tok (by omega) (by omega)
    exact kv_made l (fun b hb => hl b (List.mem_cons_of_mem _ hb)) (k + 1) _ _ s2 s3 (kv_ap hs hi h _ _ _ _)
theorem kv_new (birth cards log : Int) : KV (rnewC birth cards log).log (rnewC birth cards log).L := fun u x y h => by cases h
theorem acc_find : ∀ (l : List Chg) (M : List (ByteArray × Int)), Srt M → ∀ p, p ∈ l.foldl accS M → p ∈ M ∨ (getL p.1 M = none ∧ l.find? (fun c => decide (c.2 = p.1)) = some (p.2, p.1))
  | [], M, _, p, h => .inl h
  | c :: l, M, hs, p, h => by
    rw [List.foldl_cons] at h
    by_cases e : (getL c.2 M).isSome = true
    · have em : accS M c = M := by unfold accS; rw [if_pos e]
      rw [em] at h
      rcases acc_find l M hs p h with h | ⟨h1, h2⟩
      · exact .inl h
      · refine .inr ⟨h1, ?_⟩
        rw [List.find?_cons_of_neg (by
          simp only [decide_eq_true_eq]
          intro e2
          rw [e2, h1] at e; cases e)]
        exact h2
    · have em : accS M c = insL c.2 c.1 M := by unfold accS; rw [if_neg e]
      rw [em] at h
      rcases acc_find l _ hs.ins p h with h | ⟨h1, h2⟩
      · rcases insL_mem h with rfl | h
        · refine .inr ⟨by simpa using e, ?_⟩
          rw [List.find?_cons_of_pos (by simp)]
        · exact .inl h
      · rw [getL_ins hs] at h1
        by_cases e2 : p.1 = c.2
        · rw [if_pos e2] at h1; cases h1
        · rw [if_neg e2] at h1
          refine .inr ⟨h1, ?_⟩
          rw [List.find?_cons_of_neg (by simpa using fun e3 => e2 e3.symm)]
          exact h2
theorem last_find {T : Int} {l : List Chg} {p : ByteArray × Int} (h : p ∈ lastL T l) : l.find? (fun c => decide (c.2 = p.1)) = some (p.2, p.1) ∧ T < p.2 := by
  unfold lastL accL at h
  rcases acc_find _ [] List.Pairwise.nil p h with h | ⟨_, h⟩
  · cases h
  · refine ⟨?_, ?_⟩
    · have := find_prefix (B := l.dropWhile fun c => decide (T < c.1)) h
      rwa [List.takeWhile_append_dropWhile] at this
    · have hm := List.mem_of_find?_eq_some h
      have h2 : ∀ (l : List Chg) (c : Chg), c ∈ l.takeWhile (fun c => decide (T < c.1)) → T < c.1 := by
        intro l
        induction l with
        | nil => intro c hc; cases hc
        | cons d l ih =>
          intro c hc
          by_cases e : T < d.1
          · rw [List.takeWhile_cons_of_pos (p := fun c : Chg => decide (T < c.1)) (decide_eq_true e)] at hc
            rcases List.mem_cons.1 hc with rfl | hc
            · exact e
            · exact ih c hc
          · rw [List.takeWhile_cons_of_neg (p := fun c : Chg => decide (T < c.1)) (by simpa using e)] at hc; cases hc
      exact h2 l _ hm
/-- What is told of one card. -/
structure ToldY (c : Cs) (T : Int) (t : It) (y : Int × ByteArray) : Prop where
  x : t.x = false
  v : t.v = y.1
  c : t.c = y.2
structure ToldN (c : Cs) (T : Int) (t : It) : Prop where
  x : t.x = true
  c : t.c = .empty
theorem srt_get : ∀ {L : LK}, Srt L → ∀ p, p ∈ L → getL p.1 L = some p.2
  | [], _, p, h => by cases h
  | q :: L, hs, p, h => by
    obtain ⟨h1, h2⟩ := List.pairwise_cons.1 hs
    rw [getL_cons]
    rcases List.mem_cons.1 h with rfl | h
    · rw [if_pos rfl]
    · rw [if_neg (fun e => by have := h1 p h; rw [e, klt_irr] at this; cases this)]
      exact srt_get h2 p h
theorem told {k : Nat} {c : Cs} {R : Rs} (hs : Sim c R) (hi : Inv k c) (hk : KV R.log R.L) {T : Int} {ys : List It} (h : Sin c T ys) {t : It} (ht : t ∈ ys) :
    (∀ y, getL t.u c.L = some y → ToldY c T t y) ∧ (getL t.u c.L = none → ToldN c T t) ∧ (T ≠ 0 → T < t.v) := by
  have hm := h.1.mem_iff.1 ht
  unfold sin0 at hm
  rw [hs.log, hs.L] at hk
  by_cases h0 : T = 0
  · rw [if_pos h0] at hm
    unfold itsK at hm
    obtain ⟨p, hp, rfl⟩ := List.mem_map.1 hm
    have hg := srt_get hi.srt p hp
    refine ⟨fun y hy => ?_, fun hn => ?_, fun h => absurd h0 h⟩
    · have hy' : getL p.1 c.L = some y := hy
      rw [hg] at hy'
      cases hy'
      exact ⟨rfl, rfl, rfl⟩
    · have hn' : getL p.1 c.L = none := hn
      rw [hg] at hn'; cases hn'
  · rw [if_neg h0] at hm
    unfold chgL at hm
    obtain ⟨p, hp, rfl⟩ := List.mem_map.1 hm
    obtain ⟨hf, hT⟩ := last_find hp
    rw [chgI_u]
    refine ⟨fun y hy => ?_, fun hn => ?_, fun _ => ?_⟩
    · unfold chgI; rw [hy]; exact ⟨rfl, rfl, rfl⟩
    · unfold chgI; rw [hn]; exact ⟨rfl, rfl⟩
    · unfold chgI
      cases hy : getL p.1 c.L with
      | none => exact hT
      | some y =>
        have := hk p.1 _ y hf hy
        show T < y.1
        rw [this]; exact hT
theorem sin_pair {c : Cs} {T : Int} {ys : List It} (h : Sin c T ys) {q p : Nat} {a b : It} (hp : q = p + 1) (ha : ys[p]? = some a) (hb : ys[q]? = some b) : a.v < b.v ∨ (a.v = b.v ∧ klt a.u b.u = true) := by
  subst hp
  obtain ⟨h1, rfl⟩ := List.getElem?_eq_some_iff.1 ha
  obtain ⟨h2, rfl⟩ := List.getElem?_eq_some_iff.1 hb
  have := List.pairwise_iff_getElem.1 h.2 p (p + 1) h1 h2 (by omega)
  exact this
end Go.Proofs.Ythcjbljkokflgaa
namespace Go.Proofs.Ythcjbljkokflgaa
open Go.RowKit
open Go.Lib
open Go.Shelf
set_option linter.unusedVariables false
set_option linter.unusedSimpArgs false
set_option maxRecDepth 100000
set_option maxHeartbeats 16000000 in
theorem colKnows_walk (w : World) (a0 : Int) (w0 : (Lit.int .i64 a0).wf = true) (a1 : Int) (w1 : (Lit.int .i64 a1).wf = true) (a2 : Int) (w2 : (Lit.int .i64 a2).wf = true) (A3 : Option Addr) (len3 cap3 : Nat) (S3 : Sh.ok w (Sh.slice 6 (Sh.agg 6 [(0, 5, (Sh.agg 5 [(0, 1, Sh.bool), (1, 1, Sh.str), (2, 1, Sh.str), (3, 2, (Sh.agg 2 [(0, 1, (Sh.int .i64)), (1, 1, (Sh.int .i64))]))])), (5, 1, (Sh.int .i64))])) [.slice A3 len3 cap3]) (a4 : Int) (w4 : (Lit.int .i64 a4).wf = true) :
    Calls Try.prog 9 #[.int .i64 a0, .int .i64 a1, .int .i64 a2, .slice A3 len3 cap3, .int .i64 a4] w fun e w' => e = .returned (.bool true) ∧ Below w.heap.size w w' := by
  obtain ⟨b3, off3, l, hA⟩ := Aks_open S3
  have HA := Lib.hid hA
  clear S3 hA w0 w1 w2
  go_enter Try.func9, Try.ntmps9
  go_wp2_with fail
  refine (first_any w).mono ?_
  rintro _ w1 ⟨rfl, hb⟩
  have HB1 := Lib.hid hb
  have HA1 := Lib.hid (HA.out.on hb)
  have HL := Lib.hid (acts_any HA1.out)
  clear hb
  obtain ⟨y, hy⟩ : ∃ y, actsL l = y := ⟨_, rfl⟩
  have HY := Lib.hid hy
  rw [hy] at HL
  clear hy
  go_wp2_with fail
  refine HL.out.mono ?_
  rintro _ w2 ⟨rfl, hb⟩
  have HB2 := Lib.hid (HB1.out.trans (hb.mono HB1.out.size))
  have HA2 := Lib.hid (HA1.out.on hb)
  clear hb HL
  cases y with
  | false =>
    go_wp2_with fail
    refine (first_any w2).mono ?_
    rintro _ w3 ⟨rfl, hb⟩
    have HB3 := Lib.hid (HB2.out.trans (hb.mono HB2.out.size))
    clear hb
    go_wp2
    go_ret
    exact ⟨rfl, HB3.out⟩
  | true =>
    have HLI := Lib.hid (actsL_iff HY.out)
    have HM := Lib.hid (made_any HA2.out HY.out a0 a1 a2)
    obtain ⟨kl, hkl⟩ : ∃ k, l.length = k := ⟨_, rfl⟩
    have hk80 : kl ≤ 80 := by rw [← hkl]; exact HLI.out.1
    rw [hkl] at HM
    obtain ⟨c, hc⟩ : ∃ c, l.foldl apC (newC a0 a1 a2) = c := ⟨_, rfl⟩
    obtain ⟨R, hR⟩ : ∃ c, l.foldl apR (rnewC a0 a1 a2) = c := ⟨_, rfl⟩
    rw [hc, hR] at HM
    have HCE := Lib.hid hc
    have HKV := Lib.hid (show KV R.log R.L from hR ▸ kv_made l HLI.out.2 0 _ _ (sim_new a0 a1 a2) (inv_new a0 a1 a2) (kv_new a0 a1 a2))
    clear HY hkl hc hR
    go_wp2_with fail
    refine HM.out.mono ?_
    rintro _ w3 ⟨g, r, rfl, h1⟩
    have HD := Lib.hid h1
    clear h1 HM
    by_cases hT : a4 = 0
    · subst hT
      have hok : (0 : Int) = 0 ∨ (c.horizon ≤ 0 ∧ 0 ≤ c.latest) := .inl rfl
      have HCS := Lib.hid (HD.out.csince (by omega) 0 hok)
      clear hok
      go_wp2_with fail
      refine HCS.out.mono ?_
      rintro _ ws ⟨U, ys, hs, rfl, h1, h2⟩
      have HS := Lib.hid hs
      have HU := Lib.hid h1
      have HD4 := Lib.hid (HD.out.on h2)
      have HTL := Lib.hid (fun t (ht : t ∈ ys) => told HD.out.sim HD.out.inv HKV.out hs ht)
      have HYL := Lib.hid (HD.out.sin_len hs)
      clear hs h1 h2 HCS
      obtain ⟨A1, cap1, b1, rfl, hi1, -⟩ := own_its2 HU.out
      have HI := Lib.hid (fun h => (hi1.addr h).1)
      have hc1 := hi1.le
      obtain ⟨m, hm⟩ : ∃ m, ys.length = m := ⟨_, rfl⟩
      have HM1 := Lib.hid hm
      rw [hm] at HU HI hc1 HYL ⊢
      have hmI : (m : Int) ≤ 80 := by have := HYL.out; omega
      clear hi1 hm
      have HLN := Lib.hid (show m = c.L.length by rw [← HM1.out, HS.out.1.length_eq]; unfold sin0; rw [if_pos rfl, itsK_len])
      go_wp2
      go_loopw [15] (fun i wr => ∃ q : Nat, q ≤ m ∧ i = .int .i64 (q : Int) ∧ Below ws.heap.size ws wr) (fun i _ => m - (intOf i).toNat)
      case atStart => exact ⟨0, Nat.zero_le _, rfl, Below.refl _ _⟩
      case round =>
        obtain ⟨q, hq, rfl, hb⟩ := hrel
        have HB := Lib.hid hb
        have HDr := Lib.hid (HD4.out.on hb)
        clear hb
        by_cases hql : q < m
        · have hqI : (q : Int) < (m : Int) := by omega
          have hqc : q < cap1 := by omega
          obtain rfl := HI.out (by omega)
          obtain ⟨t, ht⟩ : ∃ t, ys[q]? = some t := ⟨ys[q]'(by rw [HM1.out]; exact hql), List.getElem?_eq_getElem _⟩
          have HTT := Lib.hid (HTL.out t (List.mem_of_getElem? ht))
          have HRT := Lib.hid (fun (W : World) (hb : Below ws.heap.size ws W) => row_item (own_below HU.out hb) ht)
          have HQT := Lib.hid ht
          obtain ⟨c0, -⟩ := HRT.out wr HB.out
          obtain ⟨tu, tv, tx, tc⟩ := t
          simp only at c0 HRT HTT
          obtain ⟨o, ho⟩ : ∃ o, getL tu c.L = o := ⟨_, rfl⟩
          have HG := Lib.hid (cl_get HDr.out.cl tu o ho)
          have HOO := Lib.hid ho
          clear ht ho
          cases o with
          | some y =>
            obtain ⟨yv, yt⟩ := y
            obtain ⟨rfl, rfl, rfl⟩ := HTT.out.1 _ HOO.out
            have HTV := Lib.hid (HTT.out.2.2)
            simp only [Option.getD_some, Option.isSome_some] at HG HTV HRT
            go_wp2_with fail
            refine HG.out.mono ?_
            rintro _ w9 ⟨rfl, hb9⟩
            have HB9 := Lib.hid (HB.out.trans (hb9.mono HB.out.size))
            obtain ⟨e0, e1, e2, e3, -⟩ := HRT.out w9 HB9.out
            clear hb9 HG c0
            skip
            by_cases hq0 : 0 < q
            · obtain ⟨p, hp⟩ : ∃ p, q = p + 1 := ⟨q - 1, by omega⟩
              obtain ⟨a, ha⟩ : ∃ a, ys[p]? = some a := ⟨ys[p]'(by rw [HM1.out]; omega), List.getElem?_eq_getElem _⟩
              have HPR := Lib.hid (sin_pair HS.out hp ha HQT.out)
              obtain ⟨d0, d1, -⟩ := row_item (own_below HU.out HB9.out) ha
              obtain ⟨au, av, ax, ac⟩ := a
              simp only at d0 d1 HPR
              have g0 : decide ((q : Int) > 0) = true := decide_eq_true (by omega)
              have g1 : decide (0 < q) = true := decide_eq_true hq0
              have i1 : IntKind.i64.wrap ((q : Int) - 1) = (p : Int) := by rw [IntWalk.i64_in _ (by omega)]; omega
              have i2 : wrap64 ((q : Int) - 1) = (p : Int) := by rw [IntWalk.wrap64_in _ (by omega)]; omega
              have hpI : (p : Int) < (m : Int) := by omega
              have hpm : p < m := by omega
              have hpc : p < cap1 := by omega
              clear ha hp hq0
              rcases HPR.out with hv | ⟨hv, hk⟩
              · have v1 : ¬ av > tv := by omega
                have v1b : decide (av > tv) = false := decide_eq_false v1
                have v1c : decide (tv < av) = false := decide_eq_false v1
                have v2 : (av == tv) = false := by simpa using (show av ≠ tv by omega)
                go_wp2_with fail
                go_quiet (fail)
                go_wp2
                go_roundw
                case rel => exact ⟨q + 1, by omega, by go_num, below_drewN HB9.out _⟩
                case measure => (simp [intOf] <;> omega)
              · subst hv
                have v1 : ¬ av > av := by omega
                have v1b : decide (av > av) = false := decide_eq_false v1
                have v1c : decide (av < av) = false := decide_eq_false v1
                have v2 : (av == av) = true := by simp
                have v3 : Op.bytesLess au.toList tu.toList = true := hk
                go_wp2_with fail
                go_quiet (fail)
                go_wp2
                go_roundw
                case rel => exact ⟨q + 1, by omega, by go_num, below_drewN HB9.out _⟩
                case measure => (simp [intOf] <;> omega)
            · have g0 : decide ((q : Int) > 0) = false := decide_eq_false (by omega)
              have g1 : decide (0 < q) = false := decide_eq_false hq0
              clear hq0
              go_wp2_with fail
              go_quiet (fail)
              go_wp2
              go_roundw
              case rel => exact ⟨q + 1, by omega, by go_num, below_drewN HB9.out _⟩
              case measure => (simp [intOf] <;> omega)
          | none =>
            obtain ⟨rfl, rfl⟩ := HTT.out.2.1 HOO.out
            have HTV := Lib.hid (HTT.out.2.2)
            simp only [Option.getD_none, Option.isSome_none] at HG HTV HRT
            go_wp2_with fail
            refine HG.out.mono ?_
            rintro _ w9 ⟨rfl, hb9⟩
            have HB9 := Lib.hid (HB.out.trans (hb9.mono HB.out.size))
            obtain ⟨e0, e1, e2, e3, -⟩ := HRT.out w9 HB9.out
            clear hb9 HG c0
            skip
            by_cases hq0 : 0 < q
            · obtain ⟨p, hp⟩ : ∃ p, q = p + 1 := ⟨q - 1, by omega⟩
              obtain ⟨a, ha⟩ : ∃ a, ys[p]? = some a := ⟨ys[p]'(by rw [HM1.out]; omega), List.getElem?_eq_getElem _⟩
              have HPR := Lib.hid (sin_pair HS.out hp ha HQT.out)
              obtain ⟨d0, d1, -⟩ := row_item (own_below HU.out HB9.out) ha
              obtain ⟨au, av, ax, ac⟩ := a
              simp only at d0 d1 HPR
              have g0 : decide ((q : Int) > 0) = true := decide_eq_true (by omega)
              have g1 : decide (0 < q) = true := decide_eq_true hq0
              have i1 : IntKind.i64.wrap ((q : Int) - 1) = (p : Int) := by rw [IntWalk.i64_in _ (by omega)]; omega
              have i2 : wrap64 ((q : Int) - 1) = (p : Int) := by rw [IntWalk.wrap64_in _ (by omega)]; omega
              have hpI : (p : Int) < (m : Int) := by omega
              have hpm : p < m := by omega
              have hpc : p < cap1 := by omega
              clear ha hp hq0
              rcases HPR.out with hv | ⟨hv, hk⟩
              · have v1 : ¬ av > tv := by omega
                have v1b : decide (av > tv) = false := decide_eq_false v1
                have v1c : decide (tv < av) = false := decide_eq_false v1
                have v2 : (av == tv) = false := by simpa using (show av ≠ tv by omega)
                go_wp2_with fail
                go_quiet (fail)
                go_wp2
                go_roundw
                case rel => exact ⟨q + 1, by omega, by go_num, below_drewN HB9.out _⟩
                case measure => (simp [intOf] <;> omega)
              · subst hv
                have v1 : ¬ av > av := by omega
                have v1b : decide (av > av) = false := decide_eq_false v1
                have v1c : decide (av < av) = false := decide_eq_false v1
                have v2 : (av == av) = true := by simp
                have v3 : Op.bytesLess au.toList tu.toList = true := hk
                go_wp2_with fail
                go_quiet (fail)
                go_wp2
                go_roundw
                case rel => exact ⟨q + 1, by omega, by go_num, below_drewN HB9.out _⟩
                case measure => (simp [intOf] <;> omega)
            · have g0 : decide ((q : Int) > 0) = false := decide_eq_false (by omega)
              have g1 : decide (0 < q) = false := decide_eq_false hq0
              clear hq0
              go_wp2_with fail
              go_quiet (fail)
              go_wp2
              go_roundw
              case rel => exact ⟨q + 1, by omega, by go_num, below_drewN HB9.out _⟩
              case measure => (simp [intOf] <;> omega)
        · obtain ⟨q, rfl⟩ : ∃ k, q = k := ⟨_, rfl⟩
          have hqn : ¬ (q : Int) < (m : Int) := by omega
          have HCL := Lib.hid (cl_len HDr.out.cl)
          rw [← HLN.out] at HCL
          go_wp2_with fail
          refine HCL.out.mono ?_
          rintro _ wz ⟨rfl, hw⟩
          replace hw := hw.symm
          subst hw
          go_wp2
          go_ret
          exact ⟨rfl, HB2.out.trans ((HDr.out.bel).mono HB2.out.size)⟩
    · have t0 : (a4 == 0) = false := by simpa using hT
      have t1 : (a4 != 0) = true := by simpa using hT
      by_cases hho : a4 < c.horizon
      · have HSB := Lib.hid (since_bad HD.out.cl hT (.inl hho))
        have HD4 := HD
        go_wp2_with fail
        refine HSB.out.mono ?_
        rintro _ w5 ⟨rfl, hw⟩
        replace hw := hw.symm
        subst hw
        clear HSB
        have d1 : ¬ a4 ≥ c.horizon := by omega
        go_wp2_with fail
        refine (cl_horizon HD4.out.cl).mono ?_
        rintro _ wx ⟨rfl, hw⟩
        replace hw := hw.symm
        subst hw
        have HQ0 := Lib.hid (Below.refl w3.heap.size w3)
        go_wp2
        go_loopw [15] (fun i wr => ∃ q : Nat, q ≤ 0 ∧ i = .int .i64 (q : Int) ∧ Below w3.heap.size w3 wr) (fun i _ => 0 - (intOf i).toNat)
        case atStart => exact ⟨0, Nat.zero_le _, rfl, HQ0.out⟩
        case round =>
          obtain ⟨q, hq, rfl, hb⟩ := hrel
          obtain rfl : q = 0 := by omega
          have HDr := Lib.hid (HD.out.on hb)
          clear hb
          go_wp2
          go_ret
          exact ⟨rfl, HB2.out.trans ((HDr.out.bel).mono HB2.out.size)⟩
      · by_cases hla : c.latest < a4
        · have HSB := Lib.hid (since_bad HD.out.cl hT (.inr hla))
          have HD4 := HD
          go_wp2_with fail
          refine HSB.out.mono ?_
          rintro _ w5 ⟨rfl, hw⟩
          replace hw := hw.symm
          subst hw
          clear HSB
          have d1 : a4 ≥ c.horizon := by omega
          have d2 : ¬ a4 ≤ c.latest := by omega
          go_wp2_with fail
          refine (cl_horizon HD4.out.cl).mono ?_
          rintro _ wx ⟨rfl, hw⟩
          replace hw := hw.symm
          subst hw
          go_wp2_with fail
          refine (cl_latest HD4.out.cl).mono ?_
          rintro _ wx ⟨rfl, hw⟩
          replace hw := hw.symm
          subst hw
          have HQ0 := Lib.hid (Below.refl w3.heap.size w3)
          go_wp2
          go_loopw [15] (fun i wr => ∃ q : Nat, q ≤ 0 ∧ i = .int .i64 (q : Int) ∧ Below w3.heap.size w3 wr) (fun i _ => 0 - (intOf i).toNat)
          case atStart => exact ⟨0, Nat.zero_le _, rfl, HQ0.out⟩
          case round =>
            obtain ⟨q, hq, rfl, hb⟩ := hrel
            obtain rfl : q = 0 := by omega
            have HDr := Lib.hid (HD.out.on hb)
            clear hb
            go_wp2
            go_ret
            exact ⟨rfl, HB2.out.trans ((HDr.out.bel).mono HB2.out.size)⟩
        · have hok : a4 = 0 ∨ (c.horizon ≤ a4 ∧ a4 ≤ c.latest) := .inr ⟨by omega, by omega⟩
          have HCS := Lib.hid (HD.out.csince (by omega) a4 hok)
          clear hok
          go_wp2_with fail
          refine HCS.out.mono ?_
          rintro _ ws ⟨U, ys, hs, rfl, h1, h2⟩
          have HS := Lib.hid hs
          have HU := Lib.hid h1
          have HD4 := Lib.hid (HD.out.on h2)
          have HTL := Lib.hid (fun t (ht : t ∈ ys) => told HD.out.sim HD.out.inv HKV.out hs ht)
          have HYL := Lib.hid (HD.out.sin_len hs)
          clear hs h1 h2 HCS
          obtain ⟨A1, cap1, b1, rfl, hi1, -⟩ := own_its2 HU.out
          have HI := Lib.hid (fun h => (hi1.addr h).1)
          have hc1 := hi1.le
          obtain ⟨m, hm⟩ : ∃ m, ys.length = m := ⟨_, rfl⟩
          have HM1 := Lib.hid hm
          rw [hm] at HU HI hc1 HYL ⊢
          have hmI : (m : Int) ≤ 80 := by have := HYL.out; omega
          clear hi1 hm
          have d1 : a4 ≥ c.horizon := by omega
          have d2 : a4 ≤ c.latest := by omega
          go_wp2_with fail
          refine (cl_horizon HD4.out.cl).mono ?_
          rintro _ wx ⟨rfl, hw⟩
          replace hw := hw.symm
          subst hw
          go_wp2_with fail
          refine (cl_latest HD4.out.cl).mono ?_
          rintro _ wx ⟨rfl, hw⟩
          replace hw := hw.symm
          subst hw
          go_wp2
          go_loopw [15] (fun i wr => ∃ q : Nat, q ≤ m ∧ i = .int .i64 (q : Int) ∧ Below ws.heap.size ws wr) (fun i _ => m - (intOf i).toNat)
          case atStart => exact ⟨0, Nat.zero_le _, rfl, Below.refl _ _⟩
          case round =>
            obtain ⟨q, hq, rfl, hb⟩ := hrel
            have HB := Lib.hid hb
            have HDr := Lib.hid (HD4.out.on hb)
            clear hb
            by_cases hql : q < m
            · have hqI : (q : Int) < (m : Int) := by omega
              have hqc : q < cap1 := by omega
              obtain rfl := HI.out (by omega)
              obtain ⟨t, ht⟩ : ∃ t, ys[q]? = some t := ⟨ys[q]'(by rw [HM1.out]; exact hql), List.getElem?_eq_getElem _⟩
              have HTT := Lib.hid (HTL.out t (List.mem_of_getElem? ht))
              have HRT := Lib.hid (fun (W : World) (hb : Below ws.heap.size ws W) => row_item (own_below HU.out hb) ht)
              have HQT := Lib.hid ht
              obtain ⟨c0, -⟩ := HRT.out wr HB.out
              obtain ⟨tu, tv, tx, tc⟩ := t
              simp only at c0 HRT HTT
              obtain ⟨o, ho⟩ : ∃ o, getL tu c.L = o := ⟨_, rfl⟩
              have HG := Lib.hid (cl_get HDr.out.cl tu o ho)
              have HOO := Lib.hid ho
              clear ht ho
              cases o with
              | some y =>
                obtain ⟨yv, yt⟩ := y
                obtain ⟨rfl, rfl, rfl⟩ := HTT.out.1 _ HOO.out
                have HTV := Lib.hid (HTT.out.2.2)
                simp only [Option.getD_some, Option.isSome_some] at HG HTV HRT
                go_wp2_with fail
                refine HG.out.mono ?_
                rintro _ w9 ⟨rfl, hb9⟩
                have HB9 := Lib.hid (HB.out.trans (hb9.mono HB.out.size))
                obtain ⟨e0, e1, e2, e3, -⟩ := HRT.out w9 HB9.out
                clear hb9 HG c0
                have hnt : ¬ tv ≤ a4 := by have := HTV.out hT; omega
                have hnt2 : decide (tv ≤ a4) = false := decide_eq_false hnt
                by_cases hq0 : 0 < q
                · obtain ⟨p, hp⟩ : ∃ p, q = p + 1 := ⟨q - 1, by omega⟩
                  obtain ⟨a, ha⟩ : ∃ a, ys[p]? = some a := ⟨ys[p]'(by rw [HM1.out]; omega), List.getElem?_eq_getElem _⟩
                  have HPR := Lib.hid (sin_pair HS.out hp ha HQT.out)
                  obtain ⟨d0, d1, -⟩ := row_item (own_below HU.out HB9.out) ha
                  obtain ⟨au, av, ax, ac⟩ := a
                  simp only at d0 d1 HPR
                  have g0 : decide ((q : Int) > 0) = true := decide_eq_true (by omega)
                  have g1 : decide (0 < q) = true := decide_eq_true hq0
                  have i1 : IntKind.i64.wrap ((q : Int) - 1) = (p : Int) := by rw [IntWalk.i64_in _ (by omega)]; omega
                  have i2 : wrap64 ((q : Int) - 1) = (p : Int) := by rw [IntWalk.wrap64_in _ (by omega)]; omega
                  have hpI : (p : Int) < (m : Int) := by omega
                  have hpm : p < m := by omega
                  have hpc : p < cap1 := by omega
                  clear ha hp hq0
                  rcases HPR.out with hv | ⟨hv, hk⟩
                  · have v1 : ¬ av > tv := by omega
                    have v1b : decide (av > tv) = false := decide_eq_false v1
                    have v1c : decide (tv < av) = false := decide_eq_false v1
                    have v2 : (av == tv) = false := by simpa using (show av ≠ tv by omega)
                    go_wp2_with fail
                    go_quiet (fail)
                    go_wp2
                    go_roundw
                    case rel => exact ⟨q + 1, by omega, by go_num, below_drewN HB9.out _⟩
                    case measure => (simp [intOf] <;> omega)
                  · subst hv
                    have v1 : ¬ av > av := by omega
                    have v1b : decide (av > av) = false := decide_eq_false v1
                    have v1c : decide (av < av) = false := decide_eq_false v1
                    have v2 : (av == av) = true := by simp
                    have v3 : Op.bytesLess au.toList tu.toList = true := hk
                    go_wp2_with fail
                    go_quiet (fail)
                    go_wp2
                    go_roundw
                    case rel => exact ⟨q + 1, by omega, by go_num, below_drewN HB9.out _⟩
                    case measure => (simp [intOf] <;> omega)
                · have g0 : decide ((q : Int) > 0) = false := decide_eq_false (by omega)
                  have g1 : decide (0 < q) = false := decide_eq_false hq0
                  clear hq0
                  go_wp2_with fail
                  go_quiet (fail)
                  go_wp2
                  go_roundw
                  case rel => exact ⟨q + 1, by omega, by go_num, below_drewN HB9.out _⟩
                  case measure => (simp [intOf] <;> omega)
              | none =>
                obtain ⟨rfl, rfl⟩ := HTT.out.2.1 HOO.out
                have HTV := Lib.hid (HTT.out.2.2)
                simp only [Option.getD_none, Option.isSome_none] at HG HTV HRT
                go_wp2_with fail
                refine HG.out.mono ?_
                rintro _ w9 ⟨rfl, hb9⟩
                have HB9 := Lib.hid (HB.out.trans (hb9.mono HB.out.size))
                obtain ⟨e0, e1, e2, e3, -⟩ := HRT.out w9 HB9.out
                clear hb9 HG c0
                have hnt : ¬ tv ≤ a4 := by have := HTV.out hT; omega
                have hnt2 : decide (tv ≤ a4) = false := decide_eq_false hnt
                by_cases hq0 : 0 < q
                · obtain ⟨p, hp⟩ : ∃ p, q = p + 1 := ⟨q - 1, by omega⟩
                  obtain ⟨a, ha⟩ : ∃ a, ys[p]? = some a := ⟨ys[p]'(by rw [HM1.out]; omega), List.getElem?_eq_getElem _⟩
                  have HPR := Lib.hid (sin_pair HS.out hp ha HQT.out)
                  obtain ⟨d0, d1, -⟩ := row_item (own_below HU.out HB9.out) ha
                  obtain ⟨au, av, ax, ac⟩ := a
                  simp only at d0 d1 HPR
                  have g0 : decide ((q : Int) > 0) = true := decide_eq_true (by omega)
                  have g1 : decide (0 < q) = true := decide_eq_true hq0
                  have i1 : IntKind.i64.wrap ((q : Int) - 1) = (p : Int) := by rw [IntWalk.i64_in _ (by omega)]; omega
                  have i2 : wrap64 ((q : Int) - 1) = (p : Int) := by rw [IntWalk.wrap64_in _ (by omega)]; omega
                  have hpI : (p : Int) < (m : Int) := by omega
                  have hpm : p < m := by omega
                  have hpc : p < cap1 := by omega
                  clear ha hp hq0
                  rcases HPR.out with hv | ⟨hv, hk⟩
                  · have v1 : ¬ av > tv := by omega
                    have v1b : decide (av > tv) = false := decide_eq_false v1
                    have v1c : decide (tv < av) = false := decide_eq_false v1
                    have v2 : (av == tv) = false := by simpa using (show av ≠ tv by omega)
                    go_wp2_with fail
                    go_quiet (fail)
                    go_wp2
                    go_roundw
                    case rel => exact ⟨q + 1, by omega, by go_num, below_drewN HB9.out _⟩
                    case measure => (simp [intOf] <;> omega)
                  · subst hv
                    have v1 : ¬ av > av := by omega
                    have v1b : decide (av > av) = false := decide_eq_false v1
                    have v1c : decide (av < av) = false := decide_eq_false v1
                    have v2 : (av == av) = true := by simp
                    have v3 : Op.bytesLess au.toList tu.toList = true := hk
                    go_wp2_with fail
                    go_quiet (fail)
                    go_wp2
                    go_roundw
                    case rel => exact ⟨q + 1, by omega, by go_num, below_drewN HB9.out _⟩
                    case measure => (simp [intOf] <;> omega)
                · have g0 : decide ((q : Int) > 0) = false := decide_eq_false (by omega)
                  have g1 : decide (0 < q) = false := decide_eq_false hq0
                  clear hq0
                  go_wp2_with fail
                  go_quiet (fail)
                  go_wp2
                  go_roundw
                  case rel => exact ⟨q + 1, by omega, by go_num, below_drewN HB9.out _⟩
                  case measure => (simp [intOf] <;> omega)
            · obtain ⟨q, rfl⟩ : ∃ k, q = k := ⟨_, rfl⟩
              have hqn : ¬ (q : Int) < (m : Int) := by omega
              go_wp2
              go_ret
              exact ⟨rfl, HB2.out.trans ((HDr.out.bel).mono HB2.out.size)⟩
end Go.Proofs.Ythcjbljkokflgaa
