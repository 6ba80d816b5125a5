/- ReqCut: bytes cut off, or with one more behind, ask nothing. -/
import Derived.Test.YtphijnkiiokieaaGreatDoorZax
import Derived.Deep.RegionHeld3
import Derived.Deep.AppendLies
namespace Go.Proofs.YtphijnkiiokieaaGreatDoor
open Go.RowKit
open Go.Lib hiding intOf
set_option linter.unusedVariables false
set_option linter.unusedSimpArgs false
set_option maxRecDepth 100000
def Kp (w0 W : World) : Prop := Below w0.heap.size w0 W
theorem Kp.refl (w : World) : Kp w w := Below.refl _ _
theorem Kp.alloc {w0 W : World} (h : Kp w0 W) (o : Obj) : Kp w0 (W.alloc o) := Below.alloc h (Below.size h) o
theorem Kp.drew {w0 W : World} (h : Kp w0 W) : Kp w0 W.drew := Below.drew h
theorem Kp.call {w0 W W' : World} (h : Kp w0 W) (hb : Below W.heap.size W W') : Kp w0 W' := Below.trans h (hb.mono (Below.size h))
theorem Kp.low {w0 W W' : World} {B : Nat} (h : Kp w0 W) (hb : Below B W W') (hB : w0.heap.size ≤ B) : Kp w0 W' := Below.trans h (hb.mono hB)
theorem Kp.set {w0 W : World} {p : Addr} (h : Kp w0 W) (u : Value) (hp : w0.heap.size ≤ p.block) : Kp w0 (W.setCell p u) := Below.setCell h hp u
theorem Kp.setG {w0 W : World} {G i : Nat} {u : Value} (h : Kp w0 W) (hG : w0.heap.size ≤ G) : Kp w0 (W.setCell ⟨G, i, none⟩ u) := Kp.set h u hG
theorem Byt.kp {w W : World} {A : Option Addr} {len cap b off : Nat} {l : List UInt8} (h : Byt w A len cap b off l) (k : Kp w W) : Byt W A len cap b off l := h.below k
theorem Blk.newE {w : World} {g : Nat} (t : TypeId) (cs : Array Value) (e : w.heap.size = g) : Blk (w.alloc (.cells cs t)) g t cs := e ▸ Blk.new w t cs
theorem past {Wc w2 : World} {G : Nat} {t : TypeId} {cs : Array Value} (h : Blk Wc G t cs) (h2 : Below Wc.heap.size Wc w2) : Blk w2 G t cs ∧ G < Wc.heap.size := ⟨h.below h2 h.lt, h.lt⟩
theorem keepA {w2 Wd w4 : World} {G B : Nat} {t : TypeId} {cs : Array Value} (h : Blk w2 G t cs ∧ G < B) (k : Kp w2 Wd) (h2 : Below B Wd w4) : Blk w4 G t cs := ((h.1.below k h.1.lt).below h2 h.2)
theorem keepB {Wd w4 : World} {G B : Nat} {t : TypeId} {cs : Array Value} (h : Blk Wd G t cs) (hB : B ≤ G) (h3 : ∀ j, B ≤ j → j < Wd.heap.size → w4.heap[j]? = Wd.heap[j]?) : Blk w4 G t cs := (h3 G hB h.lt).trans h
theorem keepC {w4 We y5 : World} {G : Nat} {t : TypeId} {cs : Array Value} (h : Blk w4 G t cs) (k : Kp w4 We) (hb : Below We.heap.size We y5) : Blk y5 G t cs := (h.below k h.lt).below hb (Nat.lt_of_lt_of_le h.lt (Below.size k))
theorem step_own_append2 {P : Program} {e t tx : TypeId} (w0 w : World) {ops : Array Oper} {o : Oper} {a : Act} {K : Act → World → Prop} {Q : Exit → Act → World → Prop} {E : Prop} (hgd : o.guard = none) (s x : Operand)
    (ho : o.op = .call { callee := .builtin .append, args := #[s, x], argTypes := #[t, tx] }) {i : TypeInfo} {z : Value} (ht : P.underlying t = some (.slice e)) (hi : P.info? e = some i) (hz : i.zero = some z) (hsz : i.size = 1) (hby : i.bytes = 1) (hzs : z.cells.size = 1)
    {B : Nat} {v : Value} {l : List UInt8} (hv : a.eval s = v) (h0 : Own e B w0 v l) (hb : Kp w0 w) (hB : B ≤ w.heap.size) (xv : Value) (hx : a.eval x = xv) (more : List UInt8) (hs : Src P 1 tx xv more.length (more.map bv) w) (h63 : l.length + more.length ≤ 140737488355328)
    (hK : ∀ v' w', Own e B w' v' (l ++ more) → Below B w w' → (∀ j, w0.heap.size ≤ j → j < w.heap.size → w'.heap[j]? = w.heap[j]?) → K (a.put o.dst v') w') : if Region.wanted o (yielded ops a.tmps) = true then Oper.wp P o a w K Q else E := by
  have hw : Region.wanted o (yielded ops a.tmps) = true := by simp [Region.wanted, hgd]
  rw [if_pos hw]
  obtain ⟨v', w', hrun, r1, r2, r3⟩ := own_append2 (P := P) (ty := o.type) ht hi hz hsz hby hzs h0 hb hB xv more hs h63
  unfold Oper.wp
  simp [execOp, ho, resolve, invoke, builtin, hv, hx, hrun, Result.andThen]
  exact hK _ _ r1 r2 r3
theorem enct_pos (s : ByteArray) : 0 < (enct s).length := by
  unfold enct enc
  split <;> simp
theorem bytesQ_len {q : Rq} (h : FnQ q) : (bytesQ q).length ≤ 170000 := by
  have y0 : ∀ (x : Bool) (s : ByteArray), s.size ≤ 20000 → (ot x s).length ≤ 20010 := fun x s hs => by
    have := enct_len s (by omega)
    cases x <;> simp [ot] <;> omega
  have y1 := y0 (hT q.k) q.t h.t
  have y2 := y0 (hC q.k) q.co h.co
  have y3 := y0 (hU q.k) q.u h.u
  have y4 := y0 (hK q.k) q.c h.c
  have y5 : (oc (hN q.k) q.ck q.cv).length ≤ 20 := by
    have a1 := encz_len q.ck h.ck
    have a2 := encz_len q.cv h.cv
    cases hN q.k <;> simp [oc, encC] <;> omega
  have y6 : (oo (hO q.k) q.ops).length ≤ 83300 := by
    have a1 := opsB_len q.ops h.ops
    have a3 : q.ops.length ≤ 16 := h.n
    have a2 := encz_len (q.ops.length : Int) (by omega)
    cases hO q.k <;> simp [oo] <;> omega
  have y7 : (on (hW q.k) q.tok).length ≤ 10 := by
    have a1 := encz_len q.tok h.tok
    cases hW q.k <;> simp [on] <;> omega
  have y8 : (on (hM q.k) q.mo).length ≤ 10 := by
    have a1 := encz_len q.mo h.mo
    cases hM q.k <;> simp [on] <;> omega
  have y9 : (on (hI q.k) q.ti).length ≤ 10 := by
    have a1 := encz_len q.ti h.ti
    cases hI q.k <;> simp [on] <;> omega
  unfold bytesQ
  simp only [List.length_append]
  omega
theorem bytes_nil {q : Rq} (h : checkQ q = 0) (hn : bytesQ q = []) : q.k = 10 ∨ q.k = 11 := by
  have hl := congrArg List.length hn
  unfold bytesQ at hl
  simp only [List.length_append, List.length_nil] at hl
  have h1 : hT q.k = false := by
    cases hh : hT q.k with
    | false => rfl
    | true => rw [hh] at hl; have := enct_pos q.t; have e : (ot true q.t).length = (enct q.t).length := rfl; omega
  have h2 : hC q.k = false := by
    cases hh : hC q.k with
    | false => rfl
    | true => rw [hh] at hl; have := enct_pos q.co; have e : (ot true q.co).length = (enct q.co).length := rfl; omega
  have hk := (check_ok h).1
  rcases kind_cases hk with e | e | e | e | e | e | e | e | e | e | e
  all_goals first | exact .inl e | exact .inr e | (exfalso; rw [e] at h1; revert h1; decide) | (exfalso; rw [e] at h2; revert h2; decide)
theorem dec_cut {q : Rq} (h : checkQ q = 0) (w : WfQ q) : (∀ m, m < (bytesQ q).length → decQ q.k ((bytesQ q).take m) = (rqZ, 1)) ∧ ∀ c, decQ q.k (bytesQ q ++ [c]) = (rqZ, 1) := by
  have g := gdq_of h w
  have hk : ¬ kindB q.k = false := by rw [(check_ok h).1]; decide
  refine ⟨fun m hm => ?_, fun c => ?_⟩
  · unfold decQ
    rw [if_neg hk, if_pos (donQ_cut q g m hm)]
  · unfold decQ
    rw [if_neg hk, if_pos (donQ_more q g c)]
set_option maxHeartbeats 16000000 in
theorem qcut_law {w : World} {A : Option Addr} {len cap b off : Nat} {xs : List Opn} (h : Ops w A len cap b off xs) (k : Int) (t co u c : ByteArray) (ck cv : Int) (tok mo ti : Int) (hs : len ≤ maxLen) (hw : WfQ ⟨k, t, co, u, c, ck, cv, xs, tok, mo, ti⟩) (hEw : Env w)
    (at_ : Int) (c9 : Int) (hc0 : 0 ≤ c9) (hc1 : c9 < 256) :
    Calls Tryz.prog 5 #[.agg #[.int .i64 k, .string t, .string co, .string u, .string c, .int .i64 ck, .int .i64 cv, .slice A len cap, .int .i64 tok, .int .i64 mo, .int .i64 ti], .int .i64 at_, .int .u8 c9] w fun r w' => r = .returned (.bool true) ∧ Below w.heap.size w w' := by
  have HX0 := Lib.hid ((Bxs.start w).new 26 #[.int .i64 k, .string t, .string co, .string u, .string c, .int .i64 ck, .int .i64 cv, .slice A len cap, .int .i64 tok, .int .i64 mo, .int .i64 ti])
  have HF := Lib.hid (fun W (hb : Below w.heap.size w W) => first12_any W (hEw.on hb))
  have HL := Lib.hid (fun W (hb : Below w.heap.size w W) => qlight_raw (h.on hb) k t co u c ck cv tok mo ti hs)
  have HE := Lib.hid (fun W (hb : Below w.heap.size w W) => hEw.on hb)
  obtain ⟨lt, hlt⟩ : ∃ r, lightQ ⟨k, t, co, u, c, ck, cv, xs, tok, mo, ti⟩ = r := ⟨_, rfl⟩
  rw [hlt] at HL
  cases lt with
  | false =>
    clear h hEw hlt hw
    go_enter Tryz.func5, Tryz.ntmps5
    go_wp2_with fail
    refine (HF.out _ HX0.out.bel).mono ?_
    rintro _ w1 ⟨rfl, hb⟩
    have HX1 := Lib.hid (HX0.out.step hb)
    clear hb
    have a_0 := (HX1.out.get 0 rfl).cell 0
    have a_1 := (HX1.out.get 0 rfl).cell 1
    have a_2 := (HX1.out.get 0 rfl).cell 2
    have a_3 := (HX1.out.get 0 rfl).cell 3
    have a_4 := (HX1.out.get 0 rfl).cell 4
    have a_5 := (HX1.out.get 0 rfl).cell 5
    have a_6 := (HX1.out.get 0 rfl).cell 6
    have a_7 := (HX1.out.get 0 rfl).cell 7
    have a_8 := (HX1.out.get 0 rfl).cell 8
    have a_9 := (HX1.out.get 0 rfl).cell 9
    have a_10 := (HX1.out.get 0 rfl).cell 10
    simp only [List.getElem?_toArray, List.getElem?_cons_zero, List.getElem?_cons_succ] at a_0 a_1 a_2 a_3 a_4 a_5 a_6 a_7 a_8 a_9 a_10
    go_wp2_with fail
    refine (HL.out _ HX1.out.bel).mono ?_
    rintro _ w2 ⟨rfl, hb⟩
    have HX2 := Lib.hid (HX1.out.step hb)
    clear hb
    go_wp2_with fail
    refine (HF.out _ HX2.out.bel).mono ?_
    rintro _ w3 ⟨rfl, hb⟩
    have HX3 := Lib.hid (HX2.out.step hb)
    clear hb
    go_wp2
    go_ret
    exact ⟨rfl, HX3.out.bel⟩
  | true =>
    have hz := sz_light hlt
    have HEN := Lib.hid (fun W (hb : Below w.heap.size w W) => qencode_raw (h.on hb) k t co u c ck cv tok mo ti hz hw (hEw.on hb))
    have HOK := Lib.hid (fun h0 => And.intro (dec_cut (q := ⟨k, t, co, u, c, ck, cv, xs, tok, mo, ti⟩) h0 hw) (And.intro (bytesQ_len (fnq_of h0 hw)) (bytes_nil (q := ⟨k, t, co, u, c, ck, cv, xs, tok, mo, ti⟩) h0)))
    obtain ⟨cr, hcr⟩ : ∃ r, checkQ ⟨k, t, co, u, c, ck, cv, xs, tok, mo, ti⟩ = r := ⟨_, rfl⟩
    rw [hcr] at HEN HOK
    obtain ⟨BS, hBS⟩ : ∃ x, bytesQ ⟨k, t, co, u, c, ck, cv, xs, tok, mo, ti⟩ = x := ⟨_, rfl⟩
    rw [hBS] at HEN HOK
    obtain ⟨i0, hi, hz0, hz1, hz2⟩ := info_parts p_info5
    have HC := Lib.hid (And.intro hc0 hc1)
    clear h hEw hlt hz hw hcr hBS hc0 hc1
    go_enter Tryz.func5, Tryz.ntmps5
    go_wp2_with fail
    refine (HF.out _ HX0.out.bel).mono ?_
    rintro _ w1 ⟨rfl, hb⟩
    have HX1 := Lib.hid (HX0.out.step hb)
    clear hb
    have a_0 := (HX1.out.get 0 rfl).cell 0
    have a_1 := (HX1.out.get 0 rfl).cell 1
    have a_2 := (HX1.out.get 0 rfl).cell 2
    have a_3 := (HX1.out.get 0 rfl).cell 3
    have a_4 := (HX1.out.get 0 rfl).cell 4
    have a_5 := (HX1.out.get 0 rfl).cell 5
    have a_6 := (HX1.out.get 0 rfl).cell 6
    have a_7 := (HX1.out.get 0 rfl).cell 7
    have a_8 := (HX1.out.get 0 rfl).cell 8
    have a_9 := (HX1.out.get 0 rfl).cell 9
    have a_10 := (HX1.out.get 0 rfl).cell 10
    simp only [List.getElem?_toArray, List.getElem?_cons_zero, List.getElem?_cons_succ] at a_0 a_1 a_2 a_3 a_4 a_5 a_6 a_7 a_8 a_9 a_10
    go_wp2_with fail
    refine (HL.out _ HX1.out.bel).mono ?_
    rintro _ w2 ⟨rfl, hb⟩
    have HX2 := Lib.hid (HX1.out.step hb)
    clear hb
    have p_0 := (HX2.out.get 0 rfl).cell 0
    have p_1 := (HX2.out.get 0 rfl).cell 1
    have p_2 := (HX2.out.get 0 rfl).cell 2
    have p_3 := (HX2.out.get 0 rfl).cell 3
    have p_4 := (HX2.out.get 0 rfl).cell 4
    have p_5 := (HX2.out.get 0 rfl).cell 5
    have p_6 := (HX2.out.get 0 rfl).cell 6
    have p_7 := (HX2.out.get 0 rfl).cell 7
    have p_8 := (HX2.out.get 0 rfl).cell 8
    have p_9 := (HX2.out.get 0 rfl).cell 9
    have p_10 := (HX2.out.get 0 rfl).cell 10
    simp only [List.getElem?_toArray, List.getElem?_cons_zero, List.getElem?_cons_succ] at p_0 p_1 p_2 p_3 p_4 p_5 p_6 p_7 p_8 p_9 p_10
    by_cases hck : cr = 0
    · subst hck
      obtain ⟨⟨hcut, hmore⟩, hBL, hnilk⟩ := HOK.out rfl
      by_cases hB0 : BS.length = 0
      · have hk2 := hnilk (List.length_eq_zero_iff.1 hB0)
        have HB0 := Lib.hid hB0
        clear hcut hmore hBL hnilk HOK
        go_wp2_with fail
        refine (HEN.out _ HX2.out.bel).mono ?_
        rintro _ y1 ⟨v, rfl, _, hown, hb⟩
        have HXA := Lib.hid (HX2.out.step hb)
        obtain ⟨A7, cap7, b7, rfl, hy⟩ := (hown (by trivial)).byt
        rw [HB0.out]
        clear hown hb hy hB0
        have q0 := (HXA.out.get 0 rfl).cell 0
        rcases hk2 with rfl | rfl
        · go_wp2
          go_ret
          exact ⟨rfl, HXA.out.bel⟩
        · go_wp2
          go_ret
          exact ⟨rfl, HXA.out.bel⟩
      have hBP : 0 < BS.length := Nat.pos_of_ne_zero hB0
      have ha := i64_and at_ 65535 (by decide) (by decide)
      obtain ⟨M, hM⟩ : ∃ M : Nat, ((BitVec.ofInt 64 at_).toNat &&& (65535 : Int).toNat) = M := ⟨_, rfl⟩
      rw [hM] at ha
      clear hM hB0 hnilk
      have hml : M % BS.length < BS.length := Nat.mod_lt _ hBP
      have HD1 := Lib.hid (fun (W : World) Q q c' (hy : Byt W Q (M % BS.length) q c' 0 (BS.take (M % BS.length))) (hE : Env W) => qdec_any hy (by rw [List.length_take]; omega) k hE)
      unfold DecQ at HD1
      rw [hcut _ hml] at HD1
      simp only [rqV, rqZ, List.length_nil, bE] at HD1
      have HD2 := Lib.hid (fun (W : World) Q q c' (hy : Byt W Q (BS.length + 1) q c' 0 (BS ++ [UInt8.ofNat c9.toNat])) (hE : Env W) => qdec_any hy (by simp; omega) k hE)
      unfold DecQ at HD2
      rw [hmore] at HD2
      simp only [rqV, rqZ, List.length_nil, bE] at HD2
      have HTM := Lib.hid (show (M : Int).tmod (BS.length : Int) = ((M % BS.length : Nat) : Int) by rw [Int.ofNat_tmod])
      obtain ⟨m, hm⟩ : ∃ m, M % BS.length = m := ⟨_, rfl⟩
      rw [hm] at hml HD1 HTM
      have HBL := Lib.hid hBL
      obtain ⟨L, hL⟩ : ∃ L, BS.length = L := ⟨_, rfl⟩
      rw [hL] at HD2 HTM hml hBP hBL
      rw [hL] at HBL
      have HL2 := Lib.hid hL
      clear hcut hmore hm HOK
      go_wp2_with fail
      refine (HEN.out _ HX2.out.bel).mono ?_
      rintro _ y1 ⟨v, rfl, _, hown, hb⟩
      have HXA := Lib.hid (HX2.out.step hb)
      obtain ⟨A7, cap7, b7, rfl, hy⟩ := (hown (by trivial)).byt
      rw [hL] at hy
      have hcap : L ≤ cap7 := hy.le
      have HY := Lib.hid hy
      clear hown hb hy
      have q0 := (HXA.out.get 0 rfl).cell 0
      rw [hL]
      have htm := HTM.out
      have hLz : ((L : Int) == 0) = false := by simp; omega
      have hLn : ¬ L = 0 := by omega
      have hmc : (m : Int) ≤ (cap7 : Int) := by omega
      have hw3 : IntKind.i64.wrap (m : Int) = (m : Int) := (IntWalk.i64_left _).trans (IntWalk.wrap64_in _ (by omega))
      clear hL
      go_wp2_with fail
      have HC1 := Lib.hid (fun W (h : Kp y1 W) => show W.cell? ⟨w.heap.size, 0, none⟩ = some (.int .i64 k) from ((HXA.out.step h).get 0 rfl).cell 0)
      have HY1 := Lib.hid (fun W (h : Kp y1 W) => HY.out.below h)
      have HB1 := Lib.hid (fun W (h : Kp y1 W) => (HXA.out.step h).bel)
      have hgt : w.heap.size < y1.heap.size := (HXA.out.get 0 rfl).lt
      have z1 : (y1.drew).cell? ⟨w.heap.size, 0, none⟩ = some (.int .i64 k) := (HXA.out.drew.get 0 rfl).cell 0
      have z0 : ((y1.alloc (.cells #[.int .i64 0, .string ⟨#[]⟩, .string ⟨#[]⟩, .string ⟨#[]⟩, .string ⟨#[]⟩, .int .i64 0, .int .i64 0, .slice none 0 0, .int .i64 0, .int .i64 0, .int .i64 0] 26)).drew).cell? ⟨w.heap.size, 0, none⟩ = some (.int .i64 k) := ((HXA.out.new 26 zero11).drew.get 0 rfl).cell 0
      go_region_held3 (fun W => W.cell? ⟨w.heap.size, 0, none⟩ = some (.int .i64 k)) (with_reducible assumption) (first
        | (go_at_call 12
           (with_reducible refine (HD1.out y1.drew _ _ _ ((HY.out.below (Below.refl _ _).drew).first m (by omega)) (HE.out _ HXA.out.drew.bel)).mono ?_)
           rintro _ y2 ⟨A8, cap8, b8, rfl, hI, hB, hb⟩
           have HXB := Lib.hid (HXA.out.drew.step hb)
           have r0 : (y2).cell? ⟨w.heap.size, 0, none⟩ = some (.int .i64 k) := (HXB.out.get 0 rfl).cell 0
           have HXC := Lib.hid (HXB.out.new 26 zero11)
           have s0 : (y2.alloc (.cells #[.int .i64 0, .string ⟨#[]⟩, .string ⟨#[]⟩, .string ⟨#[]⟩, .string ⟨#[]⟩, .int .i64 0, .int .i64 0, .slice none 0 0, .int .i64 0, .int .i64 0, .int .i64 0] 26)).cell? ⟨w.heap.size, 0, none⟩ = some (.int .i64 k) := (HXC.out.get 0 rfl).cell 0
           have HXD := Lib.hid (HXB.out.new 26 #[.int .i64 0, .string ⟨#[]⟩, .string ⟨#[]⟩, .string ⟨#[]⟩, .string ⟨#[]⟩, .int .i64 0, .int .i64 0, .slice A8 0 cap8, .int .i64 0, .int .i64 0, .int .i64 0])
           have HYE := Lib.hid ((((HY.out.below (Below.refl _ _).drew).below hb).below ((Below.refl _ _).alloc (Nat.le_refl _) (.cells #[.int .i64 0, .string ⟨#[]⟩, .string ⟨#[]⟩, .string ⟨#[]⟩, .string ⟨#[]⟩, .int .i64 0, .int .i64 0, .slice A8 0 cap8, .int .i64 0, .int .i64 0, .int .i64 0] 26))))
           have t0 : (y2.alloc (.cells #[.int .i64 0, .string ⟨#[]⟩, .string ⟨#[]⟩, .string ⟨#[]⟩, .string ⟨#[]⟩, .int .i64 0, .int .i64 0, .slice A8 0 cap8, .int .i64 0, .int .i64 0, .int .i64 0] 26)).cell? ⟨w.heap.size, 0, none⟩ = some (.int .i64 k) := (HXD.out.get 0 rfl).cell 0
           have hKf : Kp y1 y2 := Kp.call (Kp.drew (Kp.refl y1)) hb
           clear hI hB hb)
        | (go_at_call 12
           (with_reducible refine (HD1.out (y1.alloc (.cells #[.int .i64 0, .string ⟨#[]⟩, .string ⟨#[]⟩, .string ⟨#[]⟩, .string ⟨#[]⟩, .int .i64 0, .int .i64 0, .slice none 0 0, .int .i64 0, .int .i64 0, .int .i64 0] 26)).drew _ _ _ ((HY.out.below ((Below.refl _ _).alloc (Nat.le_refl _) _).drew).first m (by omega)) (HE.out _ ((HXA.out.new 26 #[.int .i64 0, .string ⟨#[]⟩, .string ⟨#[]⟩, .string ⟨#[]⟩, .string ⟨#[]⟩, .int .i64 0, .int .i64 0, .slice none 0 0, .int .i64 0, .int .i64 0, .int .i64 0]).drew.bel))).mono ?_)
           rintro _ y2 ⟨A8, cap8, b8, rfl, hI, hB, hb⟩
           have HXB := Lib.hid ((HXA.out.new 26 #[.int .i64 0, .string ⟨#[]⟩, .string ⟨#[]⟩, .string ⟨#[]⟩, .string ⟨#[]⟩, .int .i64 0, .int .i64 0, .slice none 0 0, .int .i64 0, .int .i64 0, .int .i64 0]).drew.step hb)
           have r0 : (y2).cell? ⟨w.heap.size, 0, none⟩ = some (.int .i64 k) := (HXB.out.get 0 rfl).cell 0
           have HYE := Lib.hid ((HY.out.below ((Below.refl _ _).alloc (Nat.le_refl _) _).drew).below hb)
           have u0 := (HXB.out.get 1 rfl).cell 0
           have f0 := (HXB.out.get 1 rfl).frozen 0
           have u1 := (HXB.out.get 1 rfl).cell 1
           have f1 := (HXB.out.get 1 rfl).frozen 1
           have u2 := (HXB.out.get 1 rfl).cell 2
           have f2 := (HXB.out.get 1 rfl).frozen 2
           have u3 := (HXB.out.get 1 rfl).cell 3
           have f3 := (HXB.out.get 1 rfl).frozen 3
           have u4 := (HXB.out.get 1 rfl).cell 4
           have f4 := (HXB.out.get 1 rfl).frozen 4
           have u5 := (HXB.out.get 1 rfl).cell 5
           have f5 := (HXB.out.get 1 rfl).frozen 5
           have u6 := (HXB.out.get 1 rfl).cell 6
           have f6 := (HXB.out.get 1 rfl).frozen 6
           have u7 := (HXB.out.get 1 rfl).cell 7
           have f7 := (HXB.out.get 1 rfl).frozen 7
           have u8 := (HXB.out.get 1 rfl).cell 8
           have f8 := (HXB.out.get 1 rfl).frozen 8
           have u9 := (HXB.out.get 1 rfl).cell 9
           have f9 := (HXB.out.get 1 rfl).frozen 9
           have u10 := (HXB.out.get 1 rfl).cell 10
           have f10 := (HXB.out.get 1 rfl).frozen 10
           have v0 := (World.cell?_of_block (a := ⟨w.heap.size, 0, none⟩) (heap11 (w := y2) (R := y1.heap.size) (j := w.heap.size) (by omega) (.int .i64 0) (.string ⟨#[]⟩) (.string ⟨#[]⟩) (.string ⟨#[]⟩) (.string ⟨#[]⟩) (.int .i64 0) (.int .i64 0) (.slice A8 0 cap8) (.int .i64 0) (.int .i64 0) (.int .i64 0))).trans r0
           have hKf : Kp y1 y2 := Kp.call (Kp.drew (Kp.alloc (Kp.refl y1) _)) hb
           clear hI hB hb))
      all_goals (first
        | (obtain ⟨w8, h8⟩ : ∃ W, y2.alloc (.cells #[.int .i64 0, .string ⟨#[]⟩, .string ⟨#[]⟩, .string ⟨#[]⟩, .string ⟨#[]⟩, .int .i64 0, .int .i64 0, .slice A8 0 cap8, .int .i64 0, .int .i64 0, .int .i64 0] 26) = W := ⟨_, rfl⟩
           have hK8 : Kp y1 w8 := h8 ▸ Kp.alloc hKf _
           rw [h8]
           clear h8)
        | (obtain ⟨w8, h8⟩ : ∃ W, (((((((((((y2.setCell ⟨y1.heap.size, 0, none⟩ (.int .i64 0)).setCell ⟨y1.heap.size, 1, none⟩ (.string ⟨#[]⟩)).setCell ⟨y1.heap.size, 2, none⟩ (.string ⟨#[]⟩)).setCell ⟨y1.heap.size, 3, none⟩ (.string ⟨#[]⟩)).setCell ⟨y1.heap.size, 4, none⟩ (.string ⟨#[]⟩)).setCell ⟨y1.heap.size, 5, none⟩ (.int .i64 0)).setCell ⟨y1.heap.size, 6, none⟩ (.int .i64 0)).setCell ⟨y1.heap.size, 7, none⟩ (.slice A8 0 cap8)).setCell ⟨y1.heap.size, 8, none⟩ (.int .i64 0)).setCell ⟨y1.heap.size, 9, none⟩ (.int .i64 0)).setCell ⟨y1.heap.size, 10, none⟩ (.int .i64 0)) = W := ⟨_, rfl⟩
           have hK8 : Kp y1 w8 := h8 ▸ bel11 hKf (Nat.le_refl _) (.int .i64 0) (.string ⟨#[]⟩) (.string ⟨#[]⟩) (.string ⟨#[]⟩) (.string ⟨#[]⟩) (.int .i64 0) (.int .i64 0) (.slice A8 0 cap8) (.int .i64 0) (.int .i64 0) (.int .i64 0)
           rw [h8]
           clear h8))
      all_goals (
        have HC8 := Lib.hid (fun W (h : Kp w8 W) => HC1.out W (Kp.call hK8 h))
        have HY8 := Lib.hid (fun W (h : Kp w8 W) => HY1.out W (Kp.call hK8 h))
        have HB8 := Lib.hid (fun W (h : Kp w8 W) => HB1.out W (Kp.call hK8 h))
        have HEV := Lib.hid (fun W (h : Kp w8 W) => HE.out W (HB1.out W (Kp.call hK8 h)))
        have t8 := HC8.out w8 (Kp.refl w8)
        clear z1 z0 hK8 hKf
        go_wp2_with fail
        go_region_held3 (fun W => W.cell? ⟨w.heap.size, 0, none⟩ = some (.int .i64 k)) (exact HC8.out _ (by repeat (first | with_reducible assumption | with_reducible exact Kp.refl _ | with_reducible refine Kp.alloc ?_ _ | with_reducible refine Kp.drew ?_ | with_reducible refine Kp.setG ?_ (by omega)))) (first
          | (refine step_own_append (e := 5) (t := 27) (tx := 27) (z := .int .u8 0) (i := i0) (l := []) rfl (.tmp 59) (.tmp 60) rfl Tryz.underlying27 hi hz0 hz1 hz2 rfl rfl (Own.nil 5 _ _ _) (Nat.le_refl _) (.slice A7 L cap7) rfl BS (HY8.out _ (by repeat (first | with_reducible assumption | with_reducible exact Kp.refl _ | with_reducible refine Kp.alloc ?_ _ | with_reducible refine Kp.drew ?_ | with_reducible refine Kp.setG ?_ (by omega)))).srcs (by have h5 := HBL.out; have h6 := HL2.out; rw [h6]; simp only [List.length_nil]; omega) ?_
             intro v2 w2 h1 h2
             have hK2 : Kp w8 w2 := Kp.call (by repeat (first | with_reducible assumption | with_reducible exact Kp.refl _ | with_reducible refine Kp.alloc ?_ _ | with_reducible refine Kp.drew ?_ | with_reducible refine Kp.setG ?_ (by omega))) h2
             (first
               | (refine have hA2 := past (t := 26) (cs := #[.int .i64 0, .string ⟨#[]⟩, .string ⟨#[]⟩, .string ⟨#[]⟩, .string ⟨#[]⟩, .int .i64 0, .int .i64 0, .slice none 0 0, .int .i64 0, .int .i64 0, .int .i64 0]) (G := w8.heap.size) ?_ h2; ?_; focus ((repeat (first | ((with_reducible refine Blk.newE _ _ ?_); focus (simp; done)) | with_reducible refine Blk.alloc ?_ _ | with_reducible refine Blk.drew ?_)); done))
               | (refine have hA2 := past (t := 26) (cs := #[.int .i64 0, .string ⟨#[]⟩, .string ⟨#[]⟩, .string ⟨#[]⟩, .string ⟨#[]⟩, .int .i64 0, .int .i64 0, .slice none 0 0, .int .i64 0, .int .i64 0, .int .i64 0]) (G := w8.heap.size + 1) ?_ h2; ?_; focus ((repeat (first | ((with_reducible refine Blk.newE _ _ ?_); focus (simp; done)) | with_reducible refine Blk.alloc ?_ _ | with_reducible refine Blk.drew ?_)); done))
               | (refine have hA2 := past (t := 26) (cs := #[.int .i64 0, .string ⟨#[]⟩, .string ⟨#[]⟩, .string ⟨#[]⟩, .string ⟨#[]⟩, .int .i64 0, .int .i64 0, .slice none 0 0, .int .i64 0, .int .i64 0, .int .i64 0]) (G := w8.heap.size + 1 + 1) ?_ h2; ?_; focus ((repeat (first | ((with_reducible refine Blk.newE _ _ ?_); focus (simp; done)) | with_reducible refine Blk.alloc ?_ _ | with_reducible refine Blk.drew ?_)); done))
               | skip)
             (first
               | (refine have hb2 := past (t := 5) (cs := #[.int .u8 c9]) (G := w8.heap.size) ?_ h2; ?_; focus ((repeat (first | ((with_reducible refine Blk.newE _ _ ?_); focus (simp; done)) | with_reducible refine Blk.alloc ?_ _ | with_reducible refine Blk.drew ?_)); done))
               | (refine have hb2 := past (t := 5) (cs := #[.int .u8 c9]) (G := w8.heap.size + 1) ?_ h2; ?_; focus ((repeat (first | ((with_reducible refine Blk.newE _ _ ?_); focus (simp; done)) | with_reducible refine Blk.alloc ?_ _ | with_reducible refine Blk.drew ?_)); done))
               | (refine have hb2 := past (t := 5) (cs := #[.int .u8 c9]) (G := w8.heap.size + 1 + 1) ?_ h2; ?_; focus ((repeat (first | ((with_reducible refine Blk.newE _ _ ?_); focus (simp; done)) | with_reducible refine Blk.alloc ?_ _ | with_reducible refine Blk.drew ?_)); done))
               | skip)
             have hs2 := Below.size hK2
             have HO2 := Lib.hid h1
             have HS2 := Lib.hid h2
             clear h1 h2)
          | (refine step_own_append2 (e := 5) (t := 27) (tx := 27) (z := .int .u8 0) (i := i0) w2 _ rfl (.tmp 61) (.tmp 63) rfl Tryz.underlying27 hi hz0 hz1 hz2 rfl rfl HO2.out ?_ ?_ (.slice (some ⟨w2.heap.size, 0, none⟩) 1 1) rfl [UInt8.ofNat c9.toNat] (one_src2 c9 HC.out.1 HC.out.2 ?_) ?_ ?_
             focus ((repeat (first | with_reducible assumption | with_reducible exact Kp.refl _ | with_reducible refine Kp.alloc ?_ _ | with_reducible refine Kp.drew ?_)); done)
             focus (refine Nat.le_trans HS2.out.size (Below.size (B := w2.heap.size) (w := w2) ?_); show Kp w2 _; (repeat (first | with_reducible assumption | with_reducible exact Kp.refl _ | with_reducible refine Kp.alloc ?_ _ | with_reducible refine Kp.drew ?_)); done)
             focus ((repeat (first | ((with_reducible refine Blk.newE _ _ ?_); focus (simp; done)) | with_reducible refine Blk.alloc ?_ _ | with_reducible refine Blk.drew ?_)); done)
             focus (have h5 := HBL.out; have h6 := HL2.out; rw [List.nil_append, h6]; simp only [List.length_cons, List.length_nil]; omega)
             intro v4 w4 h1 h2 h3
             have hK4 : Kp w8 w4 := Kp.low (show Kp w8 _ from (by repeat (first | with_reducible assumption | with_reducible exact Kp.refl _ | with_reducible refine Kp.alloc ?_ _ | with_reducible refine Kp.drew ?_ | with_reducible refine Kp.setG ?_ (by omega)))) h2 (Below.size (show Kp w8 _ from (by repeat (first | with_reducible assumption | with_reducible exact Kp.refl _ | with_reducible refine Kp.alloc ?_ _ | with_reducible refine Kp.drew ?_ | with_reducible refine Kp.setG ?_ (by omega)))))
             (first
               | (have hA4 := keepA hA2 (show Kp w2 _ from (by repeat (first | with_reducible assumption | with_reducible exact Kp.refl _ | with_reducible refine Kp.alloc ?_ _ | with_reducible refine Kp.drew ?_ | with_reducible refine Kp.setG ?_ (by omega)))) h2)
               | (refine have hA4 := keepB (t := 26) (cs := #[.int .i64 0, .string ⟨#[]⟩, .string ⟨#[]⟩, .string ⟨#[]⟩, .string ⟨#[]⟩, .int .i64 0, .int .i64 0, .slice none 0 0, .int .i64 0, .int .i64 0, .int .i64 0]) (G := w2.heap.size) ?_ (Nat.le_refl _) h3; ?_; focus ((repeat (first | ((with_reducible refine Blk.newE _ _ ?_); focus (simp; done)) | with_reducible refine Blk.alloc ?_ _ | with_reducible refine Blk.drew ?_)); done))
               | (refine have hA4 := keepB (t := 26) (cs := #[.int .i64 0, .string ⟨#[]⟩, .string ⟨#[]⟩, .string ⟨#[]⟩, .string ⟨#[]⟩, .int .i64 0, .int .i64 0, .slice none 0 0, .int .i64 0, .int .i64 0, .int .i64 0]) (G := w2.heap.size + 1) ?_ (by omega) h3; ?_; focus ((repeat (first | ((with_reducible refine Blk.newE _ _ ?_); focus (simp; done)) | with_reducible refine Blk.alloc ?_ _ | with_reducible refine Blk.drew ?_)); done))
               | skip)
             obtain ⟨A4, L4, cap4, b4, rfl, hL4, _, _, hy4⟩ := h1.bytL
             obtain rfl : L4 = L + 1 := by have h6 := HL2.out; rw [hL4, List.nil_append, List.length_append, h6]; rfl
             rw [List.nil_append] at hy4
             have HY4 := Lib.hid hy4
             have hs4 := Below.size hK4
             clear h1 h2 h3 hL4 hy4)
          | (refine step_own_append2 (e := 5) (t := 27) (tx := 27) (z := .int .u8 0) (i := i0) w2 _ rfl (.tmp 61) (.tmp 63) rfl Tryz.underlying27 hi hz0 hz1 hz2 rfl rfl HO2.out ?_ ?_ (.slice (some ⟨w2.heap.size + 1, 0, none⟩) 1 1) rfl [UInt8.ofNat c9.toNat] (one_src2 c9 HC.out.1 HC.out.2 ?_) ?_ ?_
             focus ((repeat (first | with_reducible assumption | with_reducible exact Kp.refl _ | with_reducible refine Kp.alloc ?_ _ | with_reducible refine Kp.drew ?_)); done)
             focus (refine Nat.le_trans HS2.out.size (Below.size (B := w2.heap.size) (w := w2) ?_); show Kp w2 _; (repeat (first | with_reducible assumption | with_reducible exact Kp.refl _ | with_reducible refine Kp.alloc ?_ _ | with_reducible refine Kp.drew ?_)); done)
             focus ((repeat (first | ((with_reducible refine Blk.newE _ _ ?_); focus (simp; done)) | with_reducible refine Blk.alloc ?_ _ | with_reducible refine Blk.drew ?_)); done)
             focus (have h5 := HBL.out; have h6 := HL2.out; rw [List.nil_append, h6]; simp only [List.length_cons, List.length_nil]; omega)
             intro v4 w4 h1 h2 h3
             have hK4 : Kp w8 w4 := Kp.low (show Kp w8 _ from (by repeat (first | with_reducible assumption | with_reducible exact Kp.refl _ | with_reducible refine Kp.alloc ?_ _ | with_reducible refine Kp.drew ?_ | with_reducible refine Kp.setG ?_ (by omega)))) h2 (Below.size (show Kp w8 _ from (by repeat (first | with_reducible assumption | with_reducible exact Kp.refl _ | with_reducible refine Kp.alloc ?_ _ | with_reducible refine Kp.drew ?_ | with_reducible refine Kp.setG ?_ (by omega)))))
             (first
               | (have hA4 := keepA hA2 (show Kp w2 _ from (by repeat (first | with_reducible assumption | with_reducible exact Kp.refl _ | with_reducible refine Kp.alloc ?_ _ | with_reducible refine Kp.drew ?_ | with_reducible refine Kp.setG ?_ (by omega)))) h2)
               | (refine have hA4 := keepB (t := 26) (cs := #[.int .i64 0, .string ⟨#[]⟩, .string ⟨#[]⟩, .string ⟨#[]⟩, .string ⟨#[]⟩, .int .i64 0, .int .i64 0, .slice none 0 0, .int .i64 0, .int .i64 0, .int .i64 0]) (G := w2.heap.size) ?_ (Nat.le_refl _) h3; ?_; focus ((repeat (first | ((with_reducible refine Blk.newE _ _ ?_); focus (simp; done)) | with_reducible refine Blk.alloc ?_ _ | with_reducible refine Blk.drew ?_)); done))
               | (refine have hA4 := keepB (t := 26) (cs := #[.int .i64 0, .string ⟨#[]⟩, .string ⟨#[]⟩, .string ⟨#[]⟩, .string ⟨#[]⟩, .int .i64 0, .int .i64 0, .slice none 0 0, .int .i64 0, .int .i64 0, .int .i64 0]) (G := w2.heap.size + 1) ?_ (by omega) h3; ?_; focus ((repeat (first | ((with_reducible refine Blk.newE _ _ ?_); focus (simp; done)) | with_reducible refine Blk.alloc ?_ _ | with_reducible refine Blk.drew ?_)); done))
               | skip)
             obtain ⟨A4, L4, cap4, b4, rfl, hL4, _, _, hy4⟩ := h1.bytL
             obtain rfl : L4 = L + 1 := by have h6 := HL2.out; rw [hL4, List.nil_append, List.length_append, h6]; rfl
             rw [List.nil_append] at hy4
             have HY4 := Lib.hid hy4
             have hs4 := Below.size hK4
             clear h1 h2 h3 hL4 hy4)
          | (refine step_own_append2 (e := 5) (t := 27) (tx := 27) (z := .int .u8 0) (i := i0) w2 _ rfl (.tmp 61) (.tmp 63) rfl Tryz.underlying27 hi hz0 hz1 hz2 rfl rfl HO2.out ?_ ?_ (.slice (some ⟨w8.heap.size, 0, none⟩) 1 1) rfl [UInt8.ofNat c9.toNat] (one_src2 c9 HC.out.1 HC.out.2 ?_) ?_ ?_
             focus ((repeat (first | with_reducible assumption | with_reducible exact Kp.refl _ | with_reducible refine Kp.alloc ?_ _ | with_reducible refine Kp.drew ?_)); done)
             focus (refine Nat.le_trans HS2.out.size (Below.size (B := w2.heap.size) (w := w2) ?_); show Kp w2 _; (repeat (first | with_reducible assumption | with_reducible exact Kp.refl _ | with_reducible refine Kp.alloc ?_ _ | with_reducible refine Kp.drew ?_)); done)
             focus ((refine hb2.1.below (show Kp w2 _ from ?_) hb2.1.lt; (repeat (first | with_reducible assumption | with_reducible exact Kp.refl _ | with_reducible refine Kp.alloc ?_ _ | with_reducible refine Kp.drew ?_))); done)
             focus (have h5 := HBL.out; have h6 := HL2.out; rw [List.nil_append, h6]; simp only [List.length_cons, List.length_nil]; omega)
             intro v4 w4 h1 h2 h3
             have hK4 : Kp w8 w4 := Kp.low (show Kp w8 _ from (by repeat (first | with_reducible assumption | with_reducible exact Kp.refl _ | with_reducible refine Kp.alloc ?_ _ | with_reducible refine Kp.drew ?_ | with_reducible refine Kp.setG ?_ (by omega)))) h2 (Below.size (show Kp w8 _ from (by repeat (first | with_reducible assumption | with_reducible exact Kp.refl _ | with_reducible refine Kp.alloc ?_ _ | with_reducible refine Kp.drew ?_ | with_reducible refine Kp.setG ?_ (by omega)))))
             (first
               | (have hA4 := keepA hA2 (show Kp w2 _ from (by repeat (first | with_reducible assumption | with_reducible exact Kp.refl _ | with_reducible refine Kp.alloc ?_ _ | with_reducible refine Kp.drew ?_ | with_reducible refine Kp.setG ?_ (by omega)))) h2)
               | (refine have hA4 := keepB (t := 26) (cs := #[.int .i64 0, .string ⟨#[]⟩, .string ⟨#[]⟩, .string ⟨#[]⟩, .string ⟨#[]⟩, .int .i64 0, .int .i64 0, .slice none 0 0, .int .i64 0, .int .i64 0, .int .i64 0]) (G := w2.heap.size) ?_ (Nat.le_refl _) h3; ?_; focus ((repeat (first | ((with_reducible refine Blk.newE _ _ ?_); focus (simp; done)) | with_reducible refine Blk.alloc ?_ _ | with_reducible refine Blk.drew ?_)); done))
               | (refine have hA4 := keepB (t := 26) (cs := #[.int .i64 0, .string ⟨#[]⟩, .string ⟨#[]⟩, .string ⟨#[]⟩, .string ⟨#[]⟩, .int .i64 0, .int .i64 0, .slice none 0 0, .int .i64 0, .int .i64 0, .int .i64 0]) (G := w2.heap.size + 1) ?_ (by omega) h3; ?_; focus ((repeat (first | ((with_reducible refine Blk.newE _ _ ?_); focus (simp; done)) | with_reducible refine Blk.alloc ?_ _ | with_reducible refine Blk.drew ?_)); done))
               | skip)
             obtain ⟨A4, L4, cap4, b4, rfl, hL4, _, _, hy4⟩ := h1.bytL
             obtain rfl : L4 = L + 1 := by have h6 := HL2.out; rw [hL4, List.nil_append, List.length_append, h6]; rfl
             rw [List.nil_append] at hy4
             have HY4 := Lib.hid hy4
             have hs4 := Below.size hK4
             clear h1 h2 h3 hL4 hy4)
          | (refine step_own_append2 (e := 5) (t := 27) (tx := 27) (z := .int .u8 0) (i := i0) w2 _ rfl (.tmp 61) (.tmp 63) rfl Tryz.underlying27 hi hz0 hz1 hz2 rfl rfl HO2.out ?_ ?_ (.slice (some ⟨w8.heap.size + 1, 0, none⟩) 1 1) rfl [UInt8.ofNat c9.toNat] (one_src2 c9 HC.out.1 HC.out.2 ?_) ?_ ?_
             focus ((repeat (first | with_reducible assumption | with_reducible exact Kp.refl _ | with_reducible refine Kp.alloc ?_ _ | with_reducible refine Kp.drew ?_)); done)
             focus (refine Nat.le_trans HS2.out.size (Below.size (B := w2.heap.size) (w := w2) ?_); show Kp w2 _; (repeat (first | with_reducible assumption | with_reducible exact Kp.refl _ | with_reducible refine Kp.alloc ?_ _ | with_reducible refine Kp.drew ?_)); done)
             focus ((refine hb2.1.below (show Kp w2 _ from ?_) hb2.1.lt; (repeat (first | with_reducible assumption | with_reducible exact Kp.refl _ | with_reducible refine Kp.alloc ?_ _ | with_reducible refine Kp.drew ?_))); done)
             focus (have h5 := HBL.out; have h6 := HL2.out; rw [List.nil_append, h6]; simp only [List.length_cons, List.length_nil]; omega)
             intro v4 w4 h1 h2 h3
             have hK4 : Kp w8 w4 := Kp.low (show Kp w8 _ from (by repeat (first | with_reducible assumption | with_reducible exact Kp.refl _ | with_reducible refine Kp.alloc ?_ _ | with_reducible refine Kp.drew ?_ | with_reducible refine Kp.setG ?_ (by omega)))) h2 (Below.size (show Kp w8 _ from (by repeat (first | with_reducible assumption | with_reducible exact Kp.refl _ | with_reducible refine Kp.alloc ?_ _ | with_reducible refine Kp.drew ?_ | with_reducible refine Kp.setG ?_ (by omega)))))
             (first
               | (have hA4 := keepA hA2 (show Kp w2 _ from (by repeat (first | with_reducible assumption | with_reducible exact Kp.refl _ | with_reducible refine Kp.alloc ?_ _ | with_reducible refine Kp.drew ?_ | with_reducible refine Kp.setG ?_ (by omega)))) h2)
               | (refine have hA4 := keepB (t := 26) (cs := #[.int .i64 0, .string ⟨#[]⟩, .string ⟨#[]⟩, .string ⟨#[]⟩, .string ⟨#[]⟩, .int .i64 0, .int .i64 0, .slice none 0 0, .int .i64 0, .int .i64 0, .int .i64 0]) (G := w2.heap.size) ?_ (Nat.le_refl _) h3; ?_; focus ((repeat (first | ((with_reducible refine Blk.newE _ _ ?_); focus (simp; done)) | with_reducible refine Blk.alloc ?_ _ | with_reducible refine Blk.drew ?_)); done))
               | (refine have hA4 := keepB (t := 26) (cs := #[.int .i64 0, .string ⟨#[]⟩, .string ⟨#[]⟩, .string ⟨#[]⟩, .string ⟨#[]⟩, .int .i64 0, .int .i64 0, .slice none 0 0, .int .i64 0, .int .i64 0, .int .i64 0]) (G := w2.heap.size + 1) ?_ (by omega) h3; ?_; focus ((repeat (first | ((with_reducible refine Blk.newE _ _ ?_); focus (simp; done)) | with_reducible refine Blk.alloc ?_ _ | with_reducible refine Blk.drew ?_)); done))
               | skip)
             obtain ⟨A4, L4, cap4, b4, rfl, hL4, _, _, hy4⟩ := h1.bytL
             obtain rfl : L4 = L + 1 := by have h6 := HL2.out; rw [hL4, List.nil_append, List.length_append, h6]; rfl
             rw [List.nil_append] at hy4
             have HY4 := Lib.hid hy4
             have hs4 := Below.size hK4
             clear h1 h2 h3 hL4 hy4)
          | (refine step_own_append2 (e := 5) (t := 27) (tx := 27) (z := .int .u8 0) (i := i0) w2 _ rfl (.tmp 61) (.tmp 63) rfl Tryz.underlying27 hi hz0 hz1 hz2 rfl rfl HO2.out ?_ ?_ (.slice (some ⟨w8.heap.size + 1 + 1, 0, none⟩) 1 1) rfl [UInt8.ofNat c9.toNat] (one_src2 c9 HC.out.1 HC.out.2 ?_) ?_ ?_
             focus ((repeat (first | with_reducible assumption | with_reducible exact Kp.refl _ | with_reducible refine Kp.alloc ?_ _ | with_reducible refine Kp.drew ?_)); done)
             focus (refine Nat.le_trans HS2.out.size (Below.size (B := w2.heap.size) (w := w2) ?_); show Kp w2 _; (repeat (first | with_reducible assumption | with_reducible exact Kp.refl _ | with_reducible refine Kp.alloc ?_ _ | with_reducible refine Kp.drew ?_)); done)
             focus ((refine hb2.1.below (show Kp w2 _ from ?_) hb2.1.lt; (repeat (first | with_reducible assumption | with_reducible exact Kp.refl _ | with_reducible refine Kp.alloc ?_ _ | with_reducible refine Kp.drew ?_))); done)
             focus (have h5 := HBL.out; have h6 := HL2.out; rw [List.nil_append, h6]; simp only [List.length_cons, List.length_nil]; omega)
             intro v4 w4 h1 h2 h3
             have hK4 : Kp w8 w4 := Kp.low (show Kp w8 _ from (by repeat (first | with_reducible assumption | with_reducible exact Kp.refl _ | with_reducible refine Kp.alloc ?_ _ | with_reducible refine Kp.drew ?_ | with_reducible refine Kp.setG ?_ (by omega)))) h2 (Below.size (show Kp w8 _ from (by repeat (first | with_reducible assumption | with_reducible exact Kp.refl _ | with_reducible refine Kp.alloc ?_ _ | with_reducible refine Kp.drew ?_ | with_reducible refine Kp.setG ?_ (by omega)))))
             (first
               | (have hA4 := keepA hA2 (show Kp w2 _ from (by repeat (first | with_reducible assumption | with_reducible exact Kp.refl _ | with_reducible refine Kp.alloc ?_ _ | with_reducible refine Kp.drew ?_ | with_reducible refine Kp.setG ?_ (by omega)))) h2)
               | (refine have hA4 := keepB (t := 26) (cs := #[.int .i64 0, .string ⟨#[]⟩, .string ⟨#[]⟩, .string ⟨#[]⟩, .string ⟨#[]⟩, .int .i64 0, .int .i64 0, .slice none 0 0, .int .i64 0, .int .i64 0, .int .i64 0]) (G := w2.heap.size) ?_ (Nat.le_refl _) h3; ?_; focus ((repeat (first | ((with_reducible refine Blk.newE _ _ ?_); focus (simp; done)) | with_reducible refine Blk.alloc ?_ _ | with_reducible refine Blk.drew ?_)); done))
               | (refine have hA4 := keepB (t := 26) (cs := #[.int .i64 0, .string ⟨#[]⟩, .string ⟨#[]⟩, .string ⟨#[]⟩, .string ⟨#[]⟩, .int .i64 0, .int .i64 0, .slice none 0 0, .int .i64 0, .int .i64 0, .int .i64 0]) (G := w2.heap.size + 1) ?_ (by omega) h3; ?_; focus ((repeat (first | ((with_reducible refine Blk.newE _ _ ?_); focus (simp; done)) | with_reducible refine Blk.alloc ?_ _ | with_reducible refine Blk.drew ?_)); done))
               | skip)
             obtain ⟨A4, L4, cap4, b4, rfl, hL4, _, _, hy4⟩ := h1.bytL
             obtain rfl : L4 = L + 1 := by have h6 := HL2.out; rw [hL4, List.nil_append, List.length_append, h6]; rfl
             rw [List.nil_append] at hy4
             have HY4 := Lib.hid hy4
             have hs4 := Below.size hK4
             clear h1 h2 h3 hL4 hy4)
          | (go_at_call 12
             (with_reducible refine (HD2.out _ _ _ _ (HY4.out.kp ?_) (HEV.out _ ?_)).mono ?_)
             focus ((repeat (first | with_reducible assumption | with_reducible exact Kp.refl _ | with_reducible refine Kp.alloc ?_ _ | with_reducible refine Kp.drew ?_ | with_reducible refine Kp.setG ?_ (by omega))); done)
             focus ((repeat (first | with_reducible assumption | with_reducible exact Kp.refl _ | with_reducible refine Kp.alloc ?_ _ | with_reducible refine Kp.drew ?_ | with_reducible refine Kp.setG ?_ (by omega))); done)
             rintro _ y5 ⟨A9, cap9, b9, rfl, hI, hB, hb⟩
             have hK5 : Kp w8 y5 := Kp.call (by (repeat (first | with_reducible assumption | with_reducible exact Kp.refl _ | with_reducible refine Kp.alloc ?_ _ | with_reducible refine Kp.drew ?_ | with_reducible refine Kp.setG ?_ (by omega)))) hb
             have hs5 := Below.size hK5
             (first
               | (refine have hA5 := keepC hA4 ?_ hb; ?_; focus ((repeat (first | with_reducible assumption | with_reducible exact Kp.refl _ | with_reducible refine Kp.alloc ?_ _ | with_reducible refine Kp.drew ?_ | with_reducible refine Kp.setG ?_ (by omega))); done))
               | (refine have hA5 := (past (t := 26) (cs := #[.int .i64 0, .string ⟨#[]⟩, .string ⟨#[]⟩, .string ⟨#[]⟩, .string ⟨#[]⟩, .int .i64 0, .int .i64 0, .slice none 0 0, .int .i64 0, .int .i64 0, .int .i64 0]) (G := w4.heap.size) ?_ hb).1; ?_; focus ((repeat (first | ((with_reducible refine Blk.newE _ _ ?_); focus (simp; done)) | with_reducible refine Blk.alloc ?_ _ | with_reducible refine Blk.drew ?_)); done))
               | skip)
             (try (
               have u0 := hA5.cell 0
               have f0 := hA5.frozen 0
               have u1 := hA5.cell 1
               have f1 := hA5.frozen 1
               have u2 := hA5.cell 2
               have f2 := hA5.frozen 2
               have u3 := hA5.cell 3
               have f3 := hA5.frozen 3
               have u4 := hA5.cell 4
               have f4 := hA5.frozen 4
               have u5 := hA5.cell 5
               have f5 := hA5.frozen 5
               have u6 := hA5.cell 6
               have f6 := hA5.frozen 6
               have u7 := hA5.cell 7
               have f7 := hA5.frozen 7
               have u8 := hA5.cell 8
               have f8 := hA5.frozen 8
               have u9 := hA5.cell 9
               have f9 := hA5.frozen 9
               have u10 := hA5.cell 10
               have f10 := hA5.frozen 10))
             clear hI hB hb))
        all_goals (
          go_wp2
          go_ret
          refine ⟨rfl, HB8.out _ ?_⟩
          (repeat (first | with_reducible assumption | with_reducible exact Kp.refl _ | with_reducible refine Kp.alloc ?_ _ | with_reducible refine Kp.drew ?_ | with_reducible refine Kp.setG ?_ (by omega)))))
    · have d0 : (cr != 0) = true := by simpa using hck
      clear hck HOK
      go_wp2_with fail
      refine (HEN.out _ HX2.out.bel).mono ?_
      rintro _ y1 ⟨v, rfl, _, _, hb⟩
      have HXA := Lib.hid (HX2.out.step hb)
      clear hb
      go_wp2
      go_ret
      exact ⟨rfl, HXA.out.bel⟩
theorem reqCut_walk (w : World) (hTD : Tabs w ∧ Day.Tab w.heap.size w) (hM : Mx w) (a0 : Int) (w0 : (Lit.int .i64 a0).wf = true) (a1 : ByteArray) (w1 : a1.size ≤ maxLen) (a2 : ByteArray) (w2 : a2.size ≤ maxLen) (a3 : ByteArray) (w3 : a3.size ≤ maxLen) (a4 : ByteArray) (w4 : a4.size ≤ maxLen) (a5 : Int) (w5 : (Lit.int .i64 a5).wf = true) (a6 : Int) (w6 : (Lit.int .i64 a6).wf = true) (A7 : Option Addr) (len7 cap7 : Nat) (S7 : Sh.ok w (Sh.slice 5 shOp) [.slice A7 len7 cap7]) (a8 : Int) (w8 : (Lit.int .i64 a8).wf = true) (a9 : Int) (w9 : (Lit.int .i64 a9).wf = true) (a10 : Int) (w10 : (Lit.int .i64 a10).wf = true) (a11 : Int) (w11 : (Lit.int .i64 a11).wf = true) (a12 : Int) (w12 : (Lit.int .u8 a12).wf = true) :
    Calls Tryz.prog 5 #[.agg #[.int .i64 a0, .string a1, .string a2, .string a3, .string a4, .int .i64 a5, .int .i64 a6, .slice A7 len7 cap7, .int .i64 a8, .int .i64 a9, .int .i64 a10], .int .i64 a11, .int .u8 a12] w fun e w' => e = .returned (.bool true) ∧ Below w.heap.size w w' := by
  obtain ⟨b, off, xs, hO, hwf, hl⟩ := ops_open S7
  have hu : 0 ≤ a12 ∧ a12 < 256 := by
    simp [Lit.wf, IntKind.min, IntKind.max, IntKind.signed, IntKind.bits] at w12
    omega
  exact qcut_law hO a0 a1 a2 a3 a4 a5 a6 a8 a9 a10 hl ⟨(wf_range w6).2, (wf_range w8).2, (wf_range w9).2, (wf_range w10).2, (wf_range w5).2, hwf⟩ ⟨hTD.1, hM, hTD.2⟩ a11 a12 hu.1 hu.2
end Go.Proofs.YtphijnkiiokieaaGreatDoor
