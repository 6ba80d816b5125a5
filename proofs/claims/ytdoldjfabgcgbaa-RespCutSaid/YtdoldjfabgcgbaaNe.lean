/- RespCut: bytes cut off, or with one more behind, answer nothing. -/
import Derived.Test.YtdoldjfabgcgbaaNd
import Derived.Deep.RegionHeld3
import Derived.Deep.AppendLies
namespace Go.Proofs.Ytdoldjfabgcgbaa
open Go.RowKit
open Go.Lib hiding intOf
set_option linter.unusedVariables false
set_option linter.unusedSimpArgs false
set_option maxRecDepth 100000
def Kp (w0 W : World) : Prop := Below w0.heap.size w0 W
theorem Kp.refl (w : World) : Kp w w := Below.refl _ _
theorem Kp.alloc {w0 W : World} (h : Kp w0 W) (o : Obj) : Kp w0 (W.alloc o) := Below.alloc h (Below.size h) o
theorem Kp.drew {w0 W : World} (h : Kp w0 W) : Kp w0 W.drew := Below.drew h
theorem Kp.call {w0 W W' : World} (h : Kp w0 W) (hb : Below W.heap.size W W') : Kp w0 W' := Below.trans h (hb.mono (Below.size h))
theorem Kp.low {w0 W W' : World} {B : Nat} (h : Kp w0 W) (hb : Below B W W') (hB : w0.heap.size ≤ B) : Kp w0 W' := Below.trans h (hb.mono hB)
theorem Kp.set {w0 W : World} {p : Addr} (h : Kp w0 W) (u : Value) (hp : w0.heap.size ≤ p.block) : Kp w0 (W.setCell p u) := Below.setCell h hp u
theorem Kp.setG {w0 W : World} {G i : Nat} {u : Value} (h : Kp w0 W) (hG : w0.heap.size ≤ G) : Kp w0 (W.setCell ⟨G, i, none⟩ u) := Kp.set h u hG
theorem Byt.kp {w W : World} {A : Option Addr} {len cap b off : Nat} {l : List UInt8} (h : Byt w A len cap b off l) (k : Kp w W) : Byt W A len cap b off l := h.below k
theorem Blk.newE {w : World} {g : Nat} (t : TypeId) (cs : Array Value) (e : w.heap.size = g) : Blk (w.alloc (.cells cs t)) g t cs := e ▸ Blk.new w t cs
theorem past {Wc w2 : World} {G : Nat} {t : TypeId} {cs : Array Value} (h : Blk Wc G t cs) (h2 : Below Wc.heap.size Wc w2) : Blk w2 G t cs ∧ G < Wc.heap.size := ⟨h.below h2 h.lt, h.lt⟩
theorem keepA {w2 Wd w4 : World} {G B : Nat} {t : TypeId} {cs : Array Value} (h : Blk w2 G t cs ∧ G < B) (k : Kp w2 Wd) (h2 : Below B Wd w4) : Blk w4 G t cs := ((h.1.below k h.1.lt).below h2 h.2)
theorem keepB {Wd w4 : World} {G B : Nat} {t : TypeId} {cs : Array Value} (h : Blk Wd G t cs) (hB : B ≤ G) (h3 : ∀ j, B ≤ j → j < Wd.heap.size → w4.heap[j]? = Wd.heap[j]?) : Blk w4 G t cs := (h3 G hB h.lt).trans h
theorem keepC {w4 We y5 : World} {G : Nat} {t : TypeId} {cs : Array Value} (h : Blk w4 G t cs) (k : Kp w4 We) (hb : Below We.heap.size We y5) : Blk y5 G t cs := (h.below k h.lt).below hb (Nat.lt_of_lt_of_le h.lt (Below.size k))
theorem step_own_append2 {P : Program} {e t tx : TypeId} (w0 w : World) {ops : Array Oper} {o : Oper} {a : Act} {K : Act → World → Prop} {Q : Exit → Act → World → Prop} {E : Prop} (hgd : o.guard = none) (s x : Operand)
    (ho : o.op = .call { callee := .builtin .append, args := #[s, x], argTypes := #[t, tx] }) {i : TypeInfo} {z : Value} (ht : P.underlying t = some (.slice e)) (hi : P.info? e = some i) (hz : i.zero = some z) (hsz : i.size = 1) (hby : i.bytes = 1) (hzs : z.cells.size = 1)
    {B : Nat} {v : Value} {l : List UInt8} (hv : a.eval s = v) (h0 : Own e B w0 v l) (hb : Kp w0 w) (hB : B ≤ w.heap.size) (xv : Value) (hx : a.eval x = xv) (more : List UInt8) (hs : Src P 1 tx xv more.length (more.map bv) w) (h63 : l.length + more.length ≤ 140737488355328)
    (hK : ∀ v' w', Own e B w' v' (l ++ more) → Below B w w' → (∀ j, w0.heap.size ≤ j → j < w.heap.size → w'.heap[j]? = w.heap[j]?) → K (a.put o.dst v') w') : if Region.wanted o (yielded ops a.tmps) = true then Oper.wp P o a w K Q else E := by
  have hw : Region.wanted o (yielded ops a.tmps) = true := by simp [Region.wanted, hgd]
  rw [if_pos hw]
  obtain ⟨v', w', hrun, r1, r2, r3⟩ := own_append2 (P := P) (ty := o.type) ht hi hz hsz hby hzs h0 hb hB xv more hs h63
  unfold Oper.wp
  simp [execOp, ho, resolve, invoke, builtin, hv, hx, hrun, Result.andThen]
  exact hK _ _ r1 r2 r3
theorem dec_cut {k e tok ver idx : Int} {card : ByteArray} {more : Bool} {xs : List It} (h : checkR k e tok ver card idx more xs = 0) (ht : tok < 9223372036854775808) (hv : ver < 9223372036854775808) (hx : ∀ t ∈ xs, t.v < 9223372036854775808) :
    0 ≤ k ∧ k ≤ 11 ∧ (bytesR e tok ver card idx more xs).length ≤ 20000 ∧ 0 < (bytesR e tok ver card idx more xs).length ∧ (∀ m, m < (bytesR e tok ver card idx more xs).length → decR (128 + k) ((bytesR e tok ver card idx more xs).take m) = (0, rpZ, 1)) ∧ ∀ c, decR (128 + k) (bytesR e tok ver card idx more xs ++ [c]) = (0, rpZ, 1) := by
  obtain ⟨h1, h2, h3⟩ := gd_of h ht hv hx
  refine ⟨h2, h3, (checkR_ok h).2.2, ?_, fun m hm => ?_, fun c => ?_⟩
  · have h4 := decQ_enc _ h1 []
    rw [List.append_nil] at h4
    refine Nat.pos_of_ne_zero fun h5 => ?_
    have h6 := decP_enc _ h1
    have h7 : bytesRp ⟨e, tok, ver, card, idx, more, xs⟩ = [] := List.length_eq_zero_iff.1 h5
    rw [h7] at h6
    have h8 := congrArg (·.2) h6
    exact absurd (show (decP []).2 = true from h8) (by decide)
  · have h4 := decP_cut _ h1 m hm
    unfold bytesRp at h4
    simp only at h4
    unfold decR
    rw [if_neg (by omega), if_pos h4]
  · have h4 := decP_more _ h1 c
    unfold bytesRp at h4
    simp only at h4
    unfold decR
    rw [if_neg (by omega), if_pos h4]
set_option maxHeartbeats 16000000 in
theorem cut_law {w : World} {A : Option Addr} {cap b off : Nat} {xs : List It} (h : Its w A xs.length cap b off xs) (hx : ∀ t ∈ xs, t.v < 9223372036854775808) (k e tok ver : Int) (card : ByteArray) (idx : Int) (more : Bool) (ht : tok < 9223372036854775808) (hv : ver < 9223372036854775808)
    (at_ : Int) (c : Int) (hc0 : 0 ≤ c) (hc1 : c < 256) :
    Calls Try.prog 5 #[.agg #[.int .i64 k, .int .i64 e, .int .i64 tok, .int .i64 ver, .string card, .int .i64 idx, .bool more, .slice A xs.length cap], .int .i64 at_, .int .u8 c] w fun r w' => r = .returned (.bool true) ∧ Below w.heap.size w w' := by
  have HX0 := Lib.hid ((Bxs.start w).new 25 #[.int .i64 k, .int .i64 e, .int .i64 tok, .int .i64 ver, .string card, .int .i64 idx, .bool more, .slice A xs.length cap])
  have HI := Lib.hid (fun W (hb : Below w.heap.size w W) => h.below hb (fun hl => (h.addr hl).2))
  have HLI := Lib.hid (fun W hb => light_any (HI.out W hb) k e tok ver card idx more)
  have HEN := Lib.hid (fun W hb => encode_any (HI.out W hb) k e tok ver card idx more ht hv hx)
  have HCH := Lib.hid (fun W hb => check_any (HI.out W hb) k e tok ver card idx more ht hv hx)
  have HOK := Lib.hid (fun h => dec_cut (k := k) (e := e) (idx := idx) (card := card) (more := more) (xs := xs) h ht hv hx)
  obtain ⟨lb, hlb⟩ : ∃ x, lightB card xs = x := ⟨_, rfl⟩
  rw [hlb] at HLI
  obtain ⟨ck, hck⟩ : ∃ x, checkR k e tok ver card idx more xs = x := ⟨_, rfl⟩
  rw [hck] at HEN HCH HOK
  obtain ⟨BS, hBS⟩ : ∃ x, bytesR e tok ver card idx more xs = x := ⟨_, rfl⟩
  rw [hBS] at HEN HOK
  obtain ⟨i0, hi, hz0, hz1, hz2⟩ := info_parts info5
  have HC := Lib.hid (And.intro hc0 hc1)
  clear h hx ht hv hlb hck hBS hc0 hc1
  go_enter Try.func5, Try.ntmps5
  go_wp2_with fail
  refine (first_any _).mono ?_
  rintro _ w1 ⟨rfl, hb⟩
  have HX1 := Lib.hid (HX0.out.step hb)
  clear hb
  have a_0 := (HX1.out.get 0 rfl).cell 0
  have a_1 := (HX1.out.get 0 rfl).cell 1
  have a_2 := (HX1.out.get 0 rfl).cell 2
  have a_3 := (HX1.out.get 0 rfl).cell 3
  have a_4 := (HX1.out.get 0 rfl).cell 4
  have a_5 := (HX1.out.get 0 rfl).cell 5
  have a_6 := (HX1.out.get 0 rfl).cell 6
  have a_7 := (HX1.out.get 0 rfl).cell 7
  go_wp2_with fail
  refine (HLI.out _ HX1.out.bel).mono ?_
  rintro _ w2 ⟨rfl, hb⟩
  have HX2 := Lib.hid (HX1.out.step hb)
  clear hb
  cases lb with
  | false =>
    go_wp2_with fail
    refine (first_any _).mono ?_
    rintro _ w3 ⟨rfl, hb⟩
    have HX3 := Lib.hid (HX2.out.step hb)
    go_wp2
    go_ret
    exact ⟨rfl, HX3.out.bel⟩
  | true =>
    have p_0 := (HX2.out.get 0 rfl).cell 0
    have p_1 := (HX2.out.get 0 rfl).cell 1
    have p_2 := (HX2.out.get 0 rfl).cell 2
    have p_3 := (HX2.out.get 0 rfl).cell 3
    have p_4 := (HX2.out.get 0 rfl).cell 4
    have p_5 := (HX2.out.get 0 rfl).cell 5
    have p_6 := (HX2.out.get 0 rfl).cell 6
    have p_7 := (HX2.out.get 0 rfl).cell 7
    by_cases hck : ck = 0
    · subst hck
      obtain ⟨hk0, hk1, hBL, hBP, hcut, hmore⟩ := HOK.out rfl
      have ha := i64_and at_ 65535 (by decide) (by decide)
      obtain ⟨M, hM⟩ : ∃ M : Nat, ((BitVec.ofInt 64 at_).toNat &&& (65535 : Int).toNat) = M := ⟨_, rfl⟩
      rw [hM] at ha
      clear hM
      have hml : M % BS.length < BS.length := Nat.mod_lt _ hBP
      have HD1 := Lib.hid (fun (W : World) Q q c (hy : Byt W Q (M % BS.length) q c 0 (BS.take (M % BS.length))) => dec_any hy (by rw [List.length_take]; omega) (128 + k))
      unfold DecPost at HD1
      rw [hcut _ hml] at HD1
      simp only [rpV, rpZ, List.length_nil] at HD1
      have HD2 := Lib.hid (fun (W : World) Q q c' (hy : Byt W Q (BS.length + 1) q c' 0 (BS ++ [UInt8.ofNat c.toNat])) => dec_any hy (by simp; omega) (128 + k))
      unfold DecPost at HD2
      rw [hmore] at HD2
      simp only [rpV, rpZ, List.length_nil] at HD2
      have HTM := Lib.hid (show (M : Int).tmod (BS.length : Int) = ((M % BS.length : Nat) : Int) by rw [Int.ofNat_tmod])
      obtain ⟨m, hm⟩ : ∃ m, M % BS.length = m := ⟨_, rfl⟩
      rw [hm] at hml HD1 HTM
      have HBL := Lib.hid hBL
      obtain ⟨L, hL⟩ : ∃ L, BS.length = L := ⟨_, rfl⟩
      rw [hL] at HD2 HTM hml hBP hBL
      have HL := Lib.hid hL
      clear hcut hmore hm
      go_wp2_with fail
      refine (HEN.out _ HX2.out.bel).mono ?_
      rintro _ y1 ⟨v, rfl, _, hown, hb⟩
      have HXA := Lib.hid (HX2.out.step hb)
      obtain ⟨A7, cap7, b7, rfl, hy⟩ := (hown (by trivial)).byt
      have HO := Lib.hid (hown (by trivial))
      rw [hL] at hy HO
      have hcap : L ≤ cap7 := hy.le
      have HY := Lib.hid hy
      clear hown hb hy
      have q0 := (HXA.out.get 0 rfl).cell 0
      rw [hL]
      have htm := HTM.out
      have hLz : ((L : Int) == 0) = false := by simp; omega
      have hLn : ¬ L = 0 := by omega
      have hmc : (m : Int) ≤ (cap7 : Int) := by omega
      have hw1 : wrap64 (128 + k) = 128 + k := IntWalk.wrap64_in _ (by omega)
      have hw2 : IntKind.i64.wrap (128 + k) = 128 + k := (IntWalk.i64_left _).trans hw1
      have hw3 : IntKind.i64.wrap (m : Int) = (m : Int) := (IntWalk.i64_left _).trans (IntWalk.wrap64_in _ (by omega))
      clear hL
      go_wp2_with fail
      have HC1 := Lib.hid (fun W (h : Kp y1 W) => show W.cell? ⟨w.heap.size, 0, none⟩ = some (.int .i64 k) from ((HXA.out.step h).get 0 rfl).cell 0)
      have HY1 := Lib.hid (fun W (h : Kp y1 W) => HY.out.below h)
      have HB1 := Lib.hid (fun W (h : Kp y1 W) => (HXA.out.step h).bel)
      have hgt : w.heap.size < y1.heap.size := (HXA.out.get 0 rfl).lt
      have z1 : (y1.drew).cell? ⟨w.heap.size, 0, none⟩ = some (.int .i64 k) := (HXA.out.drew.get 0 rfl).cell 0
      have z0 : ((y1.alloc (.cells #[.int .i64 0, .int .i64 0, .int .i64 0, .int .i64 0, .string ⟨#[]⟩, .int .i64 0, .bool false, .slice none 0 0] 25)).drew).cell? ⟨w.heap.size, 0, none⟩ = some (.int .i64 k) := ((HXA.out.new 25 zero8).drew.get 0 rfl).cell 0
      go_region_held3 (fun W => W.cell? ⟨w.heap.size, 0, none⟩ = some (.int .i64 k)) (with_reducible assumption) (first
        | (go_at_call 11
           (with_reducible refine (HD1.out y1.drew _ _ _ ((HY.out.below (Below.refl _ _).drew).first m (by omega))).mono ?_)
           rintro _ y2 ⟨A8, cap8, b8, rfl, hI, hB, hb⟩
           have HXB := Lib.hid (HXA.out.drew.step hb)
           have r0 : (y2).cell? ⟨w.heap.size, 0, none⟩ = some (.int .i64 k) := (HXB.out.get 0 rfl).cell 0
           have HXC := Lib.hid (HXB.out.new 25 zero8)
           have s0 : (y2.alloc (.cells #[.int .i64 0, .int .i64 0, .int .i64 0, .int .i64 0, .string ⟨#[]⟩, .int .i64 0, .bool false, .slice none 0 0] 25)).cell? ⟨w.heap.size, 0, none⟩ = some (.int .i64 k) := (HXC.out.get 0 rfl).cell 0
           have HXD := Lib.hid (HXB.out.new 25 #[.int .i64 0, .int .i64 0, .int .i64 0, .int .i64 0, .string ⟨#[]⟩, .int .i64 0, .bool false, .slice A8 0 cap8])
           have HYE := Lib.hid ((((HY.out.below (Below.refl _ _).drew).below hb).below ((Below.refl _ _).alloc (Nat.le_refl _) (.cells #[.int .i64 0, .int .i64 0, .int .i64 0, .int .i64 0, .string ⟨#[]⟩, .int .i64 0, .bool false, .slice A8 0 cap8] 25))))
           have t0 : (y2.alloc (.cells #[.int .i64 0, .int .i64 0, .int .i64 0, .int .i64 0, .string ⟨#[]⟩, .int .i64 0, .bool false, .slice A8 0 cap8] 25)).cell? ⟨w.heap.size, 0, none⟩ = some (.int .i64 k) := (HXD.out.get 0 rfl).cell 0
           have hKf : Kp y1 y2 := Kp.call (Kp.drew (Kp.refl y1)) hb
           clear hI hB hb)
        | (go_at_call 11
           (with_reducible refine (HD1.out (y1.alloc (.cells #[.int .i64 0, .int .i64 0, .int .i64 0, .int .i64 0, .string ⟨#[]⟩, .int .i64 0, .bool false, .slice none 0 0] 25)).drew _ _ _ ((HY.out.below ((Below.refl _ _).alloc (Nat.le_refl _) _).drew).first m (by omega))).mono ?_)
           rintro _ y2 ⟨A8, cap8, b8, rfl, hI, hB, hb⟩
           have HXB := Lib.hid ((HXA.out.new 25 #[.int .i64 0, .int .i64 0, .int .i64 0, .int .i64 0, .string ⟨#[]⟩, .int .i64 0, .bool false, .slice none 0 0]).drew.step hb)
           have r0 : (y2).cell? ⟨w.heap.size, 0, none⟩ = some (.int .i64 k) := (HXB.out.get 0 rfl).cell 0
           have HYE := Lib.hid ((HY.out.below ((Below.refl _ _).alloc (Nat.le_refl _) _).drew).below hb)
           have u0 := (HXB.out.get 1 rfl).cell 0
           have f0 := (HXB.out.get 1 rfl).frozen 0
           have u1 := (HXB.out.get 1 rfl).cell 1
           have f1 := (HXB.out.get 1 rfl).frozen 1
           have u2 := (HXB.out.get 1 rfl).cell 2
           have f2 := (HXB.out.get 1 rfl).frozen 2
           have u3 := (HXB.out.get 1 rfl).cell 3
           have f3 := (HXB.out.get 1 rfl).frozen 3
           have u4 := (HXB.out.get 1 rfl).cell 4
           have f4 := (HXB.out.get 1 rfl).frozen 4
           have u5 := (HXB.out.get 1 rfl).cell 5
           have f5 := (HXB.out.get 1 rfl).frozen 5
           have u6 := (HXB.out.get 1 rfl).cell 6
           have f6 := (HXB.out.get 1 rfl).frozen 6
           have u7 := (HXB.out.get 1 rfl).cell 7
           have f7 := (HXB.out.get 1 rfl).frozen 7
           have v0 := (World.cell?_of_block (a := ⟨w.heap.size, 0, none⟩) (heap8 (w := y2) (R := y1.heap.size) (j := w.heap.size) (by omega) (.int .i64 0) (.int .i64 0) (.int .i64 0) (.int .i64 0) (.string ⟨#[]⟩) (.int .i64 0) (.bool false) (.slice A8 0 cap8))).trans r0
           have hKf : Kp y1 y2 := Kp.call (Kp.drew (Kp.alloc (Kp.refl y1) _)) hb
           clear hI hB hb))
      all_goals (first
        | (obtain ⟨w8, h8⟩ : ∃ W, y2.alloc (.cells #[.int .i64 0, .int .i64 0, .int .i64 0, .int .i64 0, .string ⟨#[]⟩, .int .i64 0, .bool false, .slice A8 0 cap8] 25) = W := ⟨_, rfl⟩
           have hK8 : Kp y1 w8 := h8 ▸ Kp.alloc hKf _
           rw [h8]
           clear h8)
        | (obtain ⟨w8, h8⟩ : ∃ W, ((((((((y2.setCell ⟨y1.heap.size, 0, none⟩ (.int .i64 0)).setCell ⟨y1.heap.size, 1, none⟩ (.int .i64 0)).setCell ⟨y1.heap.size, 2, none⟩ (.int .i64 0)).setCell ⟨y1.heap.size, 3, none⟩ (.int .i64 0)).setCell ⟨y1.heap.size, 4, none⟩ (.string ⟨#[]⟩)).setCell ⟨y1.heap.size, 5, none⟩ (.int .i64 0)).setCell ⟨y1.heap.size, 6, none⟩ (.bool false)).setCell ⟨y1.heap.size, 7, none⟩ (.slice A8 0 cap8)) = W := ⟨_, rfl⟩
           have hK8 : Kp y1 w8 := h8 ▸ bel8 hKf (Nat.le_refl _) (.int .i64 0) (.int .i64 0) (.int .i64 0) (.int .i64 0) (.string ⟨#[]⟩) (.int .i64 0) (.bool false) (.slice A8 0 cap8)
           rw [h8]
           clear h8))
      all_goals (
        have HC8 := Lib.hid (fun W (h : Kp w8 W) => HC1.out W (Kp.call hK8 h))
        have HY8 := Lib.hid (fun W (h : Kp w8 W) => HY1.out W (Kp.call hK8 h))
        have HB8 := Lib.hid (fun W (h : Kp w8 W) => HB1.out W (Kp.call hK8 h))
        have t8 := HC8.out w8 (Kp.refl w8)
        clear z1 z0 hK8 hKf
        go_wp2_with fail
        go_region_held3 (fun W => W.cell? ⟨w.heap.size, 0, none⟩ = some (.int .i64 k)) (exact HC8.out _ (by repeat (first | with_reducible assumption | with_reducible exact Kp.refl _ | with_reducible refine Kp.alloc ?_ _ | with_reducible refine Kp.drew ?_ | with_reducible refine Kp.setG ?_ (by omega)))) (first
          | (refine step_own_append (e := 5) (t := 26) (tx := 26) (z := .int .u8 0) (i := i0) (l := []) rfl (.tmp 50) (.tmp 51) rfl Try.underlying26 hi hz0 hz1 hz2 rfl rfl (Own.nil 5 _ _ _) (Nat.le_refl _) (.slice A7 L cap7) rfl BS (HY8.out _ (by repeat (first | with_reducible assumption | with_reducible exact Kp.refl _ | with_reducible refine Kp.alloc ?_ _ | with_reducible refine Kp.drew ?_ | with_reducible refine Kp.setG ?_ (by omega)))).srcs (by have h5 := HBL.out; have h6 := HL.out; rw [h6]; simp only [List.length_nil]; omega) ?_
             intro v2 w2 h1 h2
             have hK2 : Kp w8 w2 := Kp.call (by repeat (first | with_reducible assumption | with_reducible exact Kp.refl _ | with_reducible refine Kp.alloc ?_ _ | with_reducible refine Kp.drew ?_ | with_reducible refine Kp.setG ?_ (by omega))) h2
             (first
               | (refine have hA2 := past (t := 25) (cs := #[.int .i64 0, .int .i64 0, .int .i64 0, .int .i64 0, .string ⟨#[]⟩, .int .i64 0, .bool false, .slice none 0 0]) (G := w8.heap.size) ?_ h2; ?_; focus ((repeat (first | ((with_reducible refine Blk.newE _ _ ?_); focus (simp; done)) | with_reducible refine Blk.alloc ?_ _ | with_reducible refine Blk.drew ?_)); done))
               | (refine have hA2 := past (t := 25) (cs := #[.int .i64 0, .int .i64 0, .int .i64 0, .int .i64 0, .string ⟨#[]⟩, .int .i64 0, .bool false, .slice none 0 0]) (G := w8.heap.size + 1) ?_ h2; ?_; focus ((repeat (first | ((with_reducible refine Blk.newE _ _ ?_); focus (simp; done)) | with_reducible refine Blk.alloc ?_ _ | with_reducible refine Blk.drew ?_)); done))
               | (refine have hA2 := past (t := 25) (cs := #[.int .i64 0, .int .i64 0, .int .i64 0, .int .i64 0, .string ⟨#[]⟩, .int .i64 0, .bool false, .slice none 0 0]) (G := w8.heap.size + 1 + 1) ?_ h2; ?_; focus ((repeat (first | ((with_reducible refine Blk.newE _ _ ?_); focus (simp; done)) | with_reducible refine Blk.alloc ?_ _ | with_reducible refine Blk.drew ?_)); done))
               | skip)
             (first
               | (refine have hb2 := past (t := 5) (cs := #[.int .u8 c]) (G := w8.heap.size) ?_ h2; ?_; focus ((repeat (first | ((with_reducible refine Blk.newE _ _ ?_); focus (simp; done)) | with_reducible refine Blk.alloc ?_ _ | with_reducible refine Blk.drew ?_)); done))
               | (refine have hb2 := past (t := 5) (cs := #[.int .u8 c]) (G := w8.heap.size + 1) ?_ h2; ?_; focus ((repeat (first | ((with_reducible refine Blk.newE _ _ ?_); focus (simp; done)) | with_reducible refine Blk.alloc ?_ _ | with_reducible refine Blk.drew ?_)); done))
               | (refine have hb2 := past (t := 5) (cs := #[.int .u8 c]) (G := w8.heap.size + 1 + 1) ?_ h2; ?_; focus ((repeat (first | ((with_reducible refine Blk.newE _ _ ?_); focus (simp; done)) | with_reducible refine Blk.alloc ?_ _ | with_reducible refine Blk.drew ?_)); done))
               | skip)
             have hs2 := Below.size hK2
             have HO2 := Lib.hid h1
             have HS2 := Lib.hid h2
             clear h1 h2)
          | (refine step_own_append2 (e := 5) (t := 26) (tx := 26) (z := .int .u8 0) (i := i0) w2 _ rfl (.tmp 52) (.tmp 54) rfl Try.underlying26 hi hz0 hz1 hz2 rfl rfl HO2.out ?_ ?_ (.slice (some ⟨w2.heap.size, 0, none⟩) 1 1) rfl [UInt8.ofNat c.toNat] (one_src2 c HC.out.1 HC.out.2 ?_) ?_ ?_
             focus ((repeat (first | with_reducible assumption | with_reducible exact Kp.refl _ | with_reducible refine Kp.alloc ?_ _ | with_reducible refine Kp.drew ?_)); done)
             focus (refine Nat.le_trans HS2.out.size (Below.size (B := w2.heap.size) (w := w2) ?_); show Kp w2 _; (repeat (first | with_reducible assumption | with_reducible exact Kp.refl _ | with_reducible refine Kp.alloc ?_ _ | with_reducible refine Kp.drew ?_)); done)
             focus ((repeat (first | ((with_reducible refine Blk.newE _ _ ?_); focus (simp; done)) | with_reducible refine Blk.alloc ?_ _ | with_reducible refine Blk.drew ?_)); done)
             focus (have h5 := HBL.out; have h6 := HL.out; rw [List.nil_append, h6]; simp only [List.length_cons, List.length_nil]; omega)
             intro v4 w4 h1 h2 h3
             have hK4 : Kp w8 w4 := Kp.low (show Kp w8 _ from (by repeat (first | with_reducible assumption | with_reducible exact Kp.refl _ | with_reducible refine Kp.alloc ?_ _ | with_reducible refine Kp.drew ?_ | with_reducible refine Kp.setG ?_ (by omega)))) h2 (Below.size (show Kp w8 _ from (by repeat (first | with_reducible assumption | with_reducible exact Kp.refl _ | with_reducible refine Kp.alloc ?_ _ | with_reducible refine Kp.drew ?_ | with_reducible refine Kp.setG ?_ (by omega)))))
             (first
               | (have hA4 := keepA hA2 (show Kp w2 _ from (by repeat (first | with_reducible assumption | with_reducible exact Kp.refl _ | with_reducible refine Kp.alloc ?_ _ | with_reducible refine Kp.drew ?_ | with_reducible refine Kp.setG ?_ (by omega)))) h2)
               | (refine have hA4 := keepB (t := 25) (cs := #[.int .i64 0, .int .i64 0, .int .i64 0, .int .i64 0, .string ⟨#[]⟩, .int .i64 0, .bool false, .slice none 0 0]) (G := w2.heap.size) ?_ (Nat.le_refl _) h3; ?_; focus ((repeat (first | ((with_reducible refine Blk.newE _ _ ?_); focus (simp; done)) | with_reducible refine Blk.alloc ?_ _ | with_reducible refine Blk.drew ?_)); done))
               | (refine have hA4 := keepB (t := 25) (cs := #[.int .i64 0, .int .i64 0, .int .i64 0, .int .i64 0, .string ⟨#[]⟩, .int .i64 0, .bool false, .slice none 0 0]) (G := w2.heap.size + 1) ?_ (by omega) h3; ?_; focus ((repeat (first | ((with_reducible refine Blk.newE _ _ ?_); focus (simp; done)) | with_reducible refine Blk.alloc ?_ _ | with_reducible refine Blk.drew ?_)); done))
               | skip)
             obtain ⟨A4, L4, cap4, b4, rfl, hL4, _, _, hy4⟩ := h1.bytL
             obtain rfl : L4 = L + 1 := by have h6 := HL.out; rw [hL4, List.nil_append, List.length_append, h6]; rfl
             rw [List.nil_append] at hy4
             have HY4 := Lib.hid hy4
             have hs4 := Below.size hK4
             clear h1 h2 h3 hL4 hy4)
          | (refine step_own_append2 (e := 5) (t := 26) (tx := 26) (z := .int .u8 0) (i := i0) w2 _ rfl (.tmp 52) (.tmp 54) rfl Try.underlying26 hi hz0 hz1 hz2 rfl rfl HO2.out ?_ ?_ (.slice (some ⟨w2.heap.size + 1, 0, none⟩) 1 1) rfl [UInt8.ofNat c.toNat] (one_src2 c HC.out.1 HC.out.2 ?_) ?_ ?_
             focus ((repeat (first | with_reducible assumption | with_reducible exact Kp.refl _ | with_reducible refine Kp.alloc ?_ _ | with_reducible refine Kp.drew ?_)); done)
             focus (refine Nat.le_trans HS2.out.size (Below.size (B := w2.heap.size) (w := w2) ?_); show Kp w2 _; (repeat (first | with_reducible assumption | with_reducible exact Kp.refl _ | with_reducible refine Kp.alloc ?_ _ | with_reducible refine Kp.drew ?_)); done)
             focus ((repeat (first | ((with_reducible refine Blk.newE _ _ ?_); focus (simp; done)) | with_reducible refine Blk.alloc ?_ _ | with_reducible refine Blk.drew ?_)); done)
             focus (have h5 := HBL.out; have h6 := HL.out; rw [List.nil_append, h6]; simp only [List.length_cons, List.length_nil]; omega)
             intro v4 w4 h1 h2 h3
             have hK4 : Kp w8 w4 := Kp.low (show Kp w8 _ from (by repeat (first | with_reducible assumption | with_reducible exact Kp.refl _ | with_reducible refine Kp.alloc ?_ _ | with_reducible refine Kp.drew ?_ | with_reducible refine Kp.setG ?_ (by omega)))) h2 (Below.size (show Kp w8 _ from (by repeat (first | with_reducible assumption | with_reducible exact Kp.refl _ | with_reducible refine Kp.alloc ?_ _ | with_reducible refine Kp.drew ?_ | with_reducible refine Kp.setG ?_ (by omega)))))
             (first
               | (have hA4 := keepA hA2 (show Kp w2 _ from (by repeat (first | with_reducible assumption | with_reducible exact Kp.refl _ | with_reducible refine Kp.alloc ?_ _ | with_reducible refine Kp.drew ?_ | with_reducible refine Kp.setG ?_ (by omega)))) h2)
               | (refine have hA4 := keepB (t := 25) (cs := #[.int .i64 0, .int .i64 0, .int .i64 0, .int .i64 0, .string ⟨#[]⟩, .int .i64 0, .bool false, .slice none 0 0]) (G := w2.heap.size) ?_ (Nat.le_refl _) h3; ?_; focus ((repeat (first | ((with_reducible refine Blk.newE _ _ ?_); focus (simp; done)) | with_reducible refine Blk.alloc ?_ _ | with_reducible refine Blk.drew ?_)); done))
               | (refine have hA4 := keepB (t := 25) (cs := #[.int .i64 0, .int .i64 0, .int .i64 0, .int .i64 0, .string ⟨#[]⟩, .int .i64 0, .bool false, .slice none 0 0]) (G := w2.heap.size + 1) ?_ (by omega) h3; ?_; focus ((repeat (first | ((with_reducible refine Blk.newE _ _ ?_); focus (simp; done)) | with_reducible refine Blk.alloc ?_ _ | with_reducible refine Blk.drew ?_)); done))
               | skip)
             obtain ⟨A4, L4, cap4, b4, rfl, hL4, _, _, hy4⟩ := h1.bytL
             obtain rfl : L4 = L + 1 := by have h6 := HL.out; rw [hL4, List.nil_append, List.length_append, h6]; rfl
             rw [List.nil_append] at hy4
             have HY4 := Lib.hid hy4
             have hs4 := Below.size hK4
             clear h1 h2 h3 hL4 hy4)
          | (refine step_own_append2 (e := 5) (t := 26) (tx := 26) (z := .int .u8 0) (i := i0) w2 _ rfl (.tmp 52) (.tmp 54) rfl Try.underlying26 hi hz0 hz1 hz2 rfl rfl HO2.out ?_ ?_ (.slice (some ⟨w8.heap.size, 0, none⟩) 1 1) rfl [UInt8.ofNat c.toNat] (one_src2 c HC.out.1 HC.out.2 ?_) ?_ ?_
             focus ((repeat (first | with_reducible assumption | with_reducible exact Kp.refl _ | with_reducible refine Kp.alloc ?_ _ | with_reducible refine Kp.drew ?_)); done)
             focus (refine Nat.le_trans HS2.out.size (Below.size (B := w2.heap.size) (w := w2) ?_); show Kp w2 _; (repeat (first | with_reducible assumption | with_reducible exact Kp.refl _ | with_reducible refine Kp.alloc ?_ _ | with_reducible refine Kp.drew ?_)); done)
             focus ((refine hb2.1.below (show Kp w2 _ from ?_) hb2.1.lt; (repeat (first | with_reducible assumption | with_reducible exact Kp.refl _ | with_reducible refine Kp.alloc ?_ _ | with_reducible refine Kp.drew ?_))); done)
             focus (have h5 := HBL.out; have h6 := HL.out; rw [List.nil_append, h6]; simp only [List.length_cons, List.length_nil]; omega)
             intro v4 w4 h1 h2 h3
             have hK4 : Kp w8 w4 := Kp.low (show Kp w8 _ from (by repeat (first | with_reducible assumption | with_reducible exact Kp.refl _ | with_reducible refine Kp.alloc ?_ _ | with_reducible refine Kp.drew ?_ | with_reducible refine Kp.setG ?_ (by omega)))) h2 (Below.size (show Kp w8 _ from (by repeat (first | with_reducible assumption | with_reducible exact Kp.refl _ | with_reducible refine Kp.alloc ?_ _ | with_reducible refine Kp.drew ?_ | with_reducible refine Kp.setG ?_ (by omega)))))
             (first
               | (have hA4 := keepA hA2 (show Kp w2 _ from (by repeat (first | with_reducible assumption | with_reducible exact Kp.refl _ | with_reducible refine Kp.alloc ?_ _ | with_reducible refine Kp.drew ?_ | with_reducible refine Kp.setG ?_ (by omega)))) h2)
               | (refine have hA4 := keepB (t := 25) (cs := #[.int .i64 0, .int .i64 0, .int .i64 0, .int .i64 0, .string ⟨#[]⟩, .int .i64 0, .bool false, .slice none 0 0]) (G := w2.heap.size) ?_ (Nat.le_refl _) h3; ?_; focus ((repeat (first | ((with_reducible refine Blk.newE _ _ ?_); focus (simp; done)) | with_reducible refine Blk.alloc ?_ _ | with_reducible refine Blk.drew ?_)); done))
               | (refine have hA4 := keepB (t := 25) (cs := #[.int .i64 0, .int .i64 0, .int .i64 0, .int .i64 0, .string ⟨#[]⟩, .int .i64 0, .bool false, .slice none 0 0]) (G := w2.heap.size + 1) ?_ (by omega) h3; ?_; focus ((repeat (first | ((with_reducible refine Blk.newE _ _ ?_); focus (simp; done)) | with_reducible refine Blk.alloc ?_ _ | with_reducible refine Blk.drew ?_)); done))
               | skip)
             obtain ⟨A4, L4, cap4, b4, rfl, hL4, _, _, hy4⟩ := h1.bytL
             obtain rfl : L4 = L + 1 := by have h6 := HL.out; rw [hL4, List.nil_append, List.length_append, h6]; rfl
             rw [List.nil_append] at hy4
             have HY4 := Lib.hid hy4
             have hs4 := Below.size hK4
             clear h1 h2 h3 hL4 hy4)
          | (refine step_own_append2 (e := 5) (t := 26) (tx := 26) (z := .int .u8 0) (i := i0) w2 _ rfl (.tmp 52) (.tmp 54) rfl Try.underlying26 hi hz0 hz1 hz2 rfl rfl HO2.out ?_ ?_ (.slice (some ⟨w8.heap.size + 1, 0, none⟩) 1 1) rfl [UInt8.ofNat c.toNat] (one_src2 c HC.out.1 HC.out.2 ?_) ?_ ?_
             focus ((repeat (first | with_reducible assumption | with_reducible exact Kp.refl _ | with_reducible refine Kp.alloc ?_ _ | with_reducible refine Kp.drew ?_)); done)
             focus (refine Nat.le_trans HS2.out.size (Below.size (B := w2.heap.size) (w := w2) ?_); show Kp w2 _; (repeat (first | with_reducible assumption | with_reducible exact Kp.refl _ | with_reducible refine Kp.alloc ?_ _ | with_reducible refine Kp.drew ?_)); done)
             focus ((refine hb2.1.below (show Kp w2 _ from ?_) hb2.1.lt; (repeat (first | with_reducible assumption | with_reducible exact Kp.refl _ | with_reducible refine Kp.alloc ?_ _ | with_reducible refine Kp.drew ?_))); done)
             focus (have h5 := HBL.out; have h6 := HL.out; rw [List.nil_append, h6]; simp only [List.length_cons, List.length_nil]; omega)
             intro v4 w4 h1 h2 h3
             have hK4 : Kp w8 w4 := Kp.low (show Kp w8 _ from (by repeat (first | with_reducible assumption | with_reducible exact Kp.refl _ | with_reducible refine Kp.alloc ?_ _ | with_reducible refine Kp.drew ?_ | with_reducible refine Kp.setG ?_ (by omega)))) h2 (Below.size (show Kp w8 _ from (by repeat (first | with_reducible assumption | with_reducible exact Kp.refl _ | with_reducible refine Kp.alloc ?_ _ | with_reducible refine Kp.drew ?_ | with_reducible refine Kp.setG ?_ (by omega)))))
             (first
               | (have hA4 := keepA hA2 (show Kp w2 _ from (by repeat (first | with_reducible assumption | with_reducible exact Kp.refl _ | with_reducible refine Kp.alloc ?_ _ | with_reducible refine Kp.drew ?_ | with_reducible refine Kp.setG ?_ (by omega)))) h2)
               | (refine have hA4 := keepB (t := 25) (cs := #[.int .i64 0, .int .i64 0, .int .i64 0, .int .i64 0, .string ⟨#[]⟩, .int .i64 0, .bool false, .slice none 0 0]) (G := w2.heap.size) ?_ (Nat.le_refl _) h3; ?_; focus ((repeat (first | ((with_reducible refine Blk.newE _ _ ?_); focus (simp; done)) | with_reducible refine Blk.alloc ?_ _ | with_reducible refine Blk.drew ?_)); done))
               | (refine have hA4 := keepB (t := 25) (cs := #[.int .i64 0, .int .i64 0, .int .i64 0, .int .i64 0, .string ⟨#[]⟩, .int .i64 0, .bool false, .slice none 0 0]) (G := w2.heap.size + 1) ?_ (by omega) h3; ?_; focus ((repeat (first | ((with_reducible refine Blk.newE _ _ ?_); focus (simp; done)) | with_reducible refine Blk.alloc ?_ _ | with_reducible refine Blk.drew ?_)); done))
               | skip)
             obtain ⟨A4, L4, cap4, b4, rfl, hL4, _, _, hy4⟩ := h1.bytL
             obtain rfl : L4 = L + 1 := by have h6 := HL.out; rw [hL4, List.nil_append, List.length_append, h6]; rfl
             rw [List.nil_append] at hy4
             have HY4 := Lib.hid hy4
             have hs4 := Below.size hK4
             clear h1 h2 h3 hL4 hy4)
          | (refine step_own_append2 (e := 5) (t := 26) (tx := 26) (z := .int .u8 0) (i := i0) w2 _ rfl (.tmp 52) (.tmp 54) rfl Try.underlying26 hi hz0 hz1 hz2 rfl rfl HO2.out ?_ ?_ (.slice (some ⟨w8.heap.size + 1 + 1, 0, none⟩) 1 1) rfl [UInt8.ofNat c.toNat] (one_src2 c HC.out.1 HC.out.2 ?_) ?_ ?_
             focus ((repeat (first | with_reducible assumption | with_reducible exact Kp.refl _ | with_reducible refine Kp.alloc ?_ _ | with_reducible refine Kp.drew ?_)); done)
             focus (refine Nat.le_trans HS2.out.size (Below.size (B := w2.heap.size) (w := w2) ?_); show Kp w2 _; (repeat (first | with_reducible assumption | with_reducible exact Kp.refl _ | with_reducible refine Kp.alloc ?_ _ | with_reducible refine Kp.drew ?_)); done)
             focus ((refine hb2.1.below (show Kp w2 _ from ?_) hb2.1.lt; (repeat (first | with_reducible assumption | with_reducible exact Kp.refl _ | with_reducible refine Kp.alloc ?_ _ | with_reducible refine Kp.drew ?_))); done)
             focus (have h5 := HBL.out; have h6 := HL.out; rw [List.nil_append, h6]; simp only [List.length_cons, List.length_nil]; omega)
             intro v4 w4 h1 h2 h3
             have hK4 : Kp w8 w4 := Kp.low (show Kp w8 _ from (by repeat (first | with_reducible assumption | with_reducible exact Kp.refl _ | with_reducible refine Kp.alloc ?_ _ | with_reducible refine Kp.drew ?_ | with_reducible refine Kp.setG ?_ (by omega)))) h2 (Below.size (show Kp w8 _ from (by repeat (first | with_reducible assumption | with_reducible exact Kp.refl _ | with_reducible refine Kp.alloc ?_ _ | with_reducible refine Kp.drew ?_ | with_reducible refine Kp.setG ?_ (by omega)))))
             (first
               | (have hA4 := keepA hA2 (show Kp w2 _ from (by repeat (first | with_reducible assumption | with_reducible exact Kp.refl _ | with_reducible refine Kp.alloc ?_ _ | with_reducible refine Kp.drew ?_ | with_reducible refine Kp.setG ?_ (by omega)))) h2)
               | (refine have hA4 := keepB (t := 25) (cs := #[.int .i64 0, .int .i64 0, .int .i64 0, .int .i64 0, .string ⟨#[]⟩, .int .i64 0, .bool false, .slice none 0 0]) (G := w2.heap.size) ?_ (Nat.le_refl _) h3; ?_; focus ((repeat (first | ((with_reducible refine Blk.newE _ _ ?_); focus (simp; done)) | with_reducible refine Blk.alloc ?_ _ | with_reducible refine Blk.drew ?_)); done))
               | (refine have hA4 := keepB (t := 25) (cs := #[.int .i64 0, .int .i64 0, .int .i64 0, .int .i64 0, .string ⟨#[]⟩, .int .i64 0, .bool false, .slice none 0 0]) (G := w2.heap.size + 1) ?_ (by omega) h3; ?_; focus ((repeat (first | ((with_reducible refine Blk.newE _ _ ?_); focus (simp; done)) | with_reducible refine Blk.alloc ?_ _ | with_reducible refine Blk.drew ?_)); done))
               | skip)
             obtain ⟨A4, L4, cap4, b4, rfl, hL4, _, _, hy4⟩ := h1.bytL
             obtain rfl : L4 = L + 1 := by have h6 := HL.out; rw [hL4, List.nil_append, List.length_append, h6]; rfl
             rw [List.nil_append] at hy4
             have HY4 := Lib.hid hy4
             have hs4 := Below.size hK4
             clear h1 h2 h3 hL4 hy4)
          | (go_at_call 11
             (with_reducible refine (HD2.out _ _ _ _ (HY4.out.kp ?_)).mono ?_)
             focus ((repeat (first | with_reducible assumption | with_reducible exact Kp.refl _ | with_reducible refine Kp.alloc ?_ _ | with_reducible refine Kp.drew ?_ | with_reducible refine Kp.setG ?_ (by omega))); done)
             rintro _ y5 ⟨A9, cap9, b9, rfl, hI, hB, hb⟩
             have hK5 : Kp w8 y5 := Kp.call (by (repeat (first | with_reducible assumption | with_reducible exact Kp.refl _ | with_reducible refine Kp.alloc ?_ _ | with_reducible refine Kp.drew ?_ | with_reducible refine Kp.setG ?_ (by omega)))) hb
             have hs5 := Below.size hK5
             (first
               | (refine have hA5 := keepC hA4 ?_ hb; ?_; focus ((repeat (first | with_reducible assumption | with_reducible exact Kp.refl _ | with_reducible refine Kp.alloc ?_ _ | with_reducible refine Kp.drew ?_ | with_reducible refine Kp.setG ?_ (by omega))); done))
               | (refine have hA5 := (past (t := 25) (cs := #[.int .i64 0, .int .i64 0, .int .i64 0, .int .i64 0, .string ⟨#[]⟩, .int .i64 0, .bool false, .slice none 0 0]) (G := w4.heap.size) ?_ hb).1; ?_; focus ((repeat (first | ((with_reducible refine Blk.newE _ _ ?_); focus (simp; done)) | with_reducible refine Blk.alloc ?_ _ | with_reducible refine Blk.drew ?_)); done))
               | skip)
             (try (
               have u0 := hA5.cell 0
               have f0 := hA5.frozen 0
               have u1 := hA5.cell 1
               have f1 := hA5.frozen 1
               have u2 := hA5.cell 2
               have f2 := hA5.frozen 2
               have u3 := hA5.cell 3
               have f3 := hA5.frozen 3
               have u4 := hA5.cell 4
               have f4 := hA5.frozen 4
               have u5 := hA5.cell 5
               have f5 := hA5.frozen 5
               have u6 := hA5.cell 6
               have f6 := hA5.frozen 6
               have u7 := hA5.cell 7
               have f7 := hA5.frozen 7))
             clear hI hB hb))
        all_goals (
          go_wp2
          go_ret
          refine ⟨rfl, HB8.out _ ?_⟩
          (repeat (first | with_reducible assumption | with_reducible exact Kp.refl _ | with_reducible refine Kp.alloc ?_ _ | with_reducible refine Kp.drew ?_ | with_reducible refine Kp.setG ?_ (by omega)))))
    · have d0 : (ck != 0) = true := by simpa using hck
      have HNE := Lib.hid hck
      clear hck
      go_wp2_with fail
      refine (HEN.out _ HX2.out.bel).mono ?_
      rintro _ y1 ⟨v, rfl, hnil, _, hb⟩
      have HXA := Lib.hid (HX2.out.step hb)
      obtain rfl := hnil HNE.out
      clear hnil hb
      have q_0 := (HXA.out.get 0 rfl).cell 0
      have q_1 := (HXA.out.get 0 rfl).cell 1
      have q_2 := (HXA.out.get 0 rfl).cell 2
      have q_3 := (HXA.out.get 0 rfl).cell 3
      have q_4 := (HXA.out.get 0 rfl).cell 4
      have q_5 := (HXA.out.get 0 rfl).cell 5
      have q_6 := (HXA.out.get 0 rfl).cell 6
      have q_7 := (HXA.out.get 0 rfl).cell 7
      go_wp2_with fail
      refine (HCH.out _ HXA.out.bel).mono ?_
      rintro _ y2 ⟨rfl, hb⟩
      have HXB := Lib.hid (HXA.out.step hb)
      clear hb
      go_wp2
      go_ret
      exact ⟨rfl, HXB.out.bel⟩
theorem respCut_walk (w : World) (a0 : Int) (w0 : (Lit.int .i64 a0).wf = true) (a1 : Int) (w1 : (Lit.int .i64 a1).wf = true) (a2 : Int) (w2 : (Lit.int .i64 a2).wf = true) (a3 : Int) (w3 : (Lit.int .i64 a3).wf = true) (a4 : ByteArray) (w4 : a4.size ≤ maxLen) (a5 : Int) (w5 : (Lit.int .i64 a5).wf = true) (a6 : Bool) (A7 : Option Addr) (len7 cap7 : Nat) (S7 : Sh.ok w (Sh.slice 4 shIt) [.slice A7 len7 cap7]) (a8 : Int) (w8 : (Lit.int .i64 a8).wf = true) (a9 : Int) (w9 : (Lit.int .u8 a9).wf = true) :
    Calls Try.prog 5 #[.agg #[.int .i64 a0, .int .i64 a1, .int .i64 a2, .int .i64 a3, .string a4, .int .i64 a5, .bool a6, .slice A7 len7 cap7], .int .i64 a8, .int .u8 a9] w fun e w' => e = .returned (.bool true) ∧ Below w.heap.size w w' := by
  obtain ⟨b, off, xs, h, hx⟩ := its_open S7
  obtain rfl := h.hlen
  simp [Lit.wf, IntKind.min, IntKind.max, IntKind.signed, IntKind.bits] at w9
  exact cut_law h hx a0 a1 a2 a3 a4 a5 a6 (wf_lt w2) (wf_lt w3) a8 a9 (by omega) (by omega)
end Go.Proofs.Ytdoldjfabgcgbaa
