/- The items of an answer, read: the loop. -/
import Derived.Test.YtdoldjfabgcgbaaWt
namespace Go.Proofs.Ytdoldjfabgcgbaa
open Go.RowKit
open Go.Lib hiding intOf
set_option linter.unusedVariables false
set_option linter.unusedSimpArgs false
set_option maxRecDepth 20000
theorem infoIt : (Try.prog.info? 39).map (fun i => (i.zero, i.size, i.bytes)) = some (some (.agg #[.string ⟨#[]⟩, .int .i64 0, .bool false, .string ⟨#[]⟩]), 4, 48) := by kernel_rfl
/-- At the loop's head. -/
structure Lo (w0 wr : World) (G g : Nat) (s : ByteArray) (q : Ps) (x : Bool) (v : Value) (acc : List It) : Prop where
  wi : Wi wr G g s q x
  ow : wr.ownsRow w0.heap.size 39 4 v acc.length (itsC acc)
  tw : Tw2 w0 wr G g
  hG : G < w0.heap.size
  hg : g < w0.heap.size
  few : acc.length ≤ s.size + 1 ∧ (q.e = 0 → acc.length ≤ q.p)
theorem Lo.below {w0 wr w' : World} {G g : Nat} {s : ByteArray} {q : Ps} {x : Bool} {v : Value} {acc : List It} (h : Lo w0 wr G g s q x v acc) (hb : Below wr.heap.size wr w') : Lo w0 w' G g s q x v acc :=
  ⟨h.wi.keep hb, own_tw h.ow (Tw2.ofBelow hb) h.hG h.hg, h.tw.trans (Tw2.ofBelow hb), h.hG, h.hg, h.few⟩
theorem Lo.box {w0 wr w' : World} {G g : Nat} {s : ByteArray} {q q' : Ps} {x x' : Bool} {v : Value} {acc : List It} (h : Lo w0 wr G g s q x v acc) (hw : Wi w' G g s q' x') (ht : Tw2 wr w' G g) (cs : Array Value) : St w0 (w'.alloc (.cells cs 39)) G g w'.heap.size cs s q' x' v acc.length (itsC acc) :=
  have hb : Below w'.heap.size w' (w'.alloc (.cells cs 39)) := (Below.refl _ _).alloc (Nat.le_refl _) _
  ⟨hw.keep hb, (own_tw h.ow ht h.hG h.hg).alloc _, (h.tw.trans ht).trans (Tw2.ofBelow hb), Blk.new _ _ _, Nat.le_trans h.tw.size ht.size, fun e => by
    have := ((own_tw h.ow ht h.hG h.hg).lt _ e).2
    omega, h.hG, h.hg⟩
theorem St.fin {w0 wr w' : World} {G g X : Nat} {cs : Array Value} {s : ByteArray} {q : Ps} {x : Bool} {v : Value} {n : Nat} {vs : List Value} {o : Obj} (h : St w0 wr G g X cs s q x v n vs) (hg : (wr.alloc o).grownBy w' v.ownBlock) : Wi w' G g s q x ∧ Tw2 w0 w' G g := by
  have hb : Below wr.heap.size wr (wr.alloc o) := (Below.refl _ _).alloc (Nat.le_refl _) _
  have hW := h.wi.keep hb
  have hT := h.tw.trans (Tw2.ofBelow hb)
  have hr : ∀ k, v.ownBlock = some k → w0.heap.size ≤ k := fun k e => (h.ow.lt k e).1
  have h1 := h.hG
  have h2 := h.hg
  refine ⟨⟨hW.bx.grown hg (fun e => ?_), Blk.grown hW.rd hg (fun e => ?_), hW.ne, hW.hp⟩, ⟨hg.os.trans hT.os, hg.tape.trans hT.tape, hg.output.trans hT.output, Nat.le_trans hT.size hg.size, fun j hj h3 h4 => (hg.block j (Nat.lt_of_lt_of_le hj hT.size) (fun e => ?_)).trans (hT.block j hj h3 h4)⟩⟩
  · have := hr G e.symm; omega
  · have := hr g e.symm; omega
  · have := hr j e.symm; omega
def itsR (l : List UInt8) (q : Ps) (x : Bool) : List It × Ps × Bool := itsP (belowP 2147483647 l q x).1.toNat l (belowP 2147483647 l q x).2.1 (belowP 2147483647 l q x).2.2
theorem belowP_nat (m : Nat) (l : List UInt8) (q : Ps) (x : Bool) : 0 ≤ (belowP m l q x).1 ∧ (belowP m l q x).1 ≤ m := by
  have : 0 ≤ (numP l q).1 := by
    unfold numP
    split
    · exact Int.le_refl _
    · split
      · exact Int.natCast_nonneg _
      · exact Int.le_refl _
  unfold belowP
  split
  · simp
  · rename_i h; simp only at h ⊢; omega
section
variable {w : World} {G g : Nat} {s : ByteArray} {q : Ps} {x : Bool}
set_option maxHeartbeats 8000000 in
theorem items_any (h : Wi w G g s q x) (hs : s.size ≤ 1000000) (hG : G < w.heap.size) (hg : g < w.heap.size) : Calls Try.prog 24 #[.pointer (some ⟨G, 0, none⟩)] w fun r w' => ∃ v, r = .returned v ∧ w'.ownsRow w.heap.size 39 4 v (itsR s.data.toList q x).1.length (itsC (itsR s.data.toList q x).1) ∧ Wi w' G g s (itsR s.data.toList q x).2.1 (itsR s.data.toList q x).2.2 ∧ Tw2 w w' G g := by
  obtain ⟨i0, hi, hz0, hz1, hz2⟩ := info_parts infoIt
  have HB := Lib.hid (below_any h hs 2147483647)
  have HN := Lib.hid (belowP_nat 2147483647 s.data.toList q x)
  have HR := Lib.hid (show itsP (belowP 2147483647 s.data.toList q x).1.toNat s.data.toList (belowP 2147483647 s.data.toList q x).2.1 (belowP 2147483647 s.data.toList q x).2.2 = itsR s.data.toList q x from rfl)
  obtain ⟨T, hT⟩ : ∃ T, itsR s.data.toList q x = T := ⟨_, rfl⟩
  rw [hT] at HR ⊢
  obtain ⟨⟨n, q2, x2⟩, hn⟩ : ∃ y, belowP 2147483647 s.data.toList q x = y := ⟨_, rfl⟩
  rw [hn] at HB HN HR
  simp only at HB HN HR
  obtain ⟨k, rfl⟩ : ∃ k : Nat, n = (k : Int) := ⟨n.toNat, by have := HN.out.1; omega⟩
  have hk : k ≤ 2147483647 := by have := HN.out.2; omega
  rw [Int.toNat_natCast] at HR
  clear h hT hn HN
  go_enter Try.func24, Try.ntmps24
  go_wp2_with fail
  refine HB.out.mono ?_
  rintro _ w1 ⟨rfl, h1, h2⟩
  have HL0 := Lib.hid (show Lo w w1 G g s q2 x2 (.slice none 0 0) [] from ⟨h1, World.ownsRow_nil _ _ _ _, h2, hG, hg, by simp, fun _ => by simp⟩)
  clear h1 h2 HB
  go_wp2_with fail
  go_loopw [3, 4] (fun v i wr => ∃ (N : Nat) (acc : List It) (p : Ps) (y : Bool), N ≤ 2147483647 ∧ i = .int .i64 (N : Int) ∧ Lo w wr G g s p y v acc ∧ T = (acc ++ (itsP N s.data.toList p y).1, (itsP N s.data.toList p y).2)) (fun _ i _ => (intOf i).toNat)
  case atStart => exact ⟨k, [], q2, x2, hk, rfl, HL0.out, by rw [← HR.out]; rfl⟩
  case round =>
    obtain ⟨N, acc, p, y, hN, rfl, hL, hTe⟩ := hrel
    have HL := Lib.hid hL
    have HT := Lib.hid hTe
    have c0 := hL.wi.bx.cell 0
    have HE := Lib.hid (err_any hL.wi.rd)
    clear hL hTe
    cases N with
    | zero =>
      go_wp2
      go_ret
      have e : T = (acc, p, y) := by rw [HT.out]; simp [itsP]
      rw [e]
      exact ⟨u3, rfl, HL.out.ow, HL.out.wi, HL.out.tw⟩
    | succ N =>
      have hpos : decide (((N + 1 : Nat) : Int) > 0) = true := decide_eq_true (by omega)
      cases he : (p.e == 0) with
      | false =>
        have H0 := Lib.hid (show T = (acc, p, y) by
          rw [HT.out, show itsP (N + 1) s.data.toList p y = ([], p, y) from if_pos (by simpa using he)]; simp)
        go_wp2_with fail
        refine HE.out.mono ?_
        rintro _ w2 ⟨rfl, hb⟩
        have HL2 := Lib.hid (HL.out.below hb)
        clear hb
        go_wp2
        go_ret
        rw [H0.out]
        exact ⟨u3, rfl, HL2.out.ow, HL2.out.wi, HL2.out.tw⟩
      | true =>
        have hpe : p.e = 0 := by simpa using he
        obtain ⟨⟨tu, p1⟩, e1⟩ : ∃ z, textP 20000 s.data.toList p = z := ⟨_, rfl⟩
        obtain ⟨⟨nv, p2⟩, e2⟩ : ∃ z, numP s.data.toList p1 = z := ⟨_, rfl⟩
        obtain ⟨⟨gx, p3, y3⟩, e3⟩ : ∃ z, markP s.data.toList p2 y = z := ⟨_, rfl⟩
        obtain ⟨⟨tc, p4⟩, e4⟩ : ∃ z, textP 20000 s.data.toList p3 = z := ⟨_, rfl⟩
        have eI : itP s.data.toList p y = (⟨tu, nv, gx, tc⟩, p4, y3) := by unfold itP; simp only [e1, e2, e3, e4]
        have hst := itP_step s.data.toList p y
        rw [eI] at hst
        have H0 := Lib.hid (show T = ((acc ++ [⟨tu, nv, gx, tc⟩]) ++ (itsP N s.data.toList p4 y3).1, (itsP N s.data.toList p4 y3).2) by
          rw [HT.out, show itsP (N + 1) s.data.toList p y = ((itP s.data.toList p y).1 :: (itsP N s.data.toList (itP s.data.toList p y).2.1 (itP s.data.toList p y).2.2).1, (itsP N s.data.toList (itP s.data.toList p y).2.1 (itP s.data.toList p y).2.2).2) from if_neg (by simpa using hpe), eI]
          simp)
        have hfew := HL.out.few.2 hpe
        have hin := HL.out.wi.hp
        have HF1 := Lib.hid (fun w0 (h : Wi w0 G g s p y) => e1 ▸ field_any h hs)
        have HF2 := Lib.hid (fun w0 (h : Wi w0 G g s p1 y) => e2 ▸ wnum_any h hs)
        have HF3 := Lib.hid (fun w0 (h : Wi w0 G g s p2 y) => e3 ▸ wmark_any h hs)
        have HF4 := Lib.hid (fun w0 (h : Wi w0 G g s p3 y3) => e4 ▸ field_any h hs)
        simp only at HF1 HF2 HF3 HF4
        clear eI e1 e2 e3 e4 HT HR HL0
        go_wp2_with fail
        refine HE.out.mono ?_
        rintro _ w2 ⟨rfl, hb⟩
        have HL2 := Lib.hid (HL.out.below hb)
        clear hb HE HL
        go_wp2_with fail
        refine (HF1.out _ HL2.out.wi).mono ?_
        rintro _ w3 ⟨rfl, h1, h2⟩
        have HS3 := Lib.hid (HL2.out.box h1 h2 #[.string tu, .int .i64 0, .bool false, .string ⟨#[]⟩])
        have d0 := HS3.out.wi.bx.cell 0
        have d1 := HS3.out.bx.cell 0
        clear h1 h2
        go_wp2_with fail
        refine (HF2.out _ HS3.out.wi).mono ?_
        rintro _ w4 ⟨rfl, h1, h2⟩
        have HS4 := Lib.hid (HS3.out.call h1 h2)
        have g4 := HS4.out.bx.cell 1
        have f4 := HS4.out.bx.frozen 1
        have HS5 := Lib.hid (HS4.out.set 1 (.int .i64 nv))
        clear h1 h2
        go_wp2_with fail
        refine (HF3.out _ HS5.out.wi).mono ?_
        rintro _ w6 ⟨rfl, h1, h2⟩
        have HS6 := Lib.hid (HS5.out.call h1 h2)
        have g6 := HS6.out.bx.cell 2
        have f6 := HS6.out.bx.frozen 2
        have HS7 := Lib.hid (HS6.out.set 2 (.bool gx))
        clear h1 h2
        go_wp2_with fail
        refine (HF4.out _ HS7.out.wi).mono ?_
        rintro _ w8 ⟨rfl, h1, h2⟩
        have HS8 := Lib.hid (HS7.out.call h1 h2)
        have g8 := HS8.out.bx.cell 3
        have f8 := HS8.out.bx.frozen 3
        have HS9 := Lib.hid (HS8.out.set 3 (.string tc))
        have c90 := HS9.out.bx.cell 0
        have c91 := HS9.out.bx.cell 1
        have c92 := HS9.out.bx.cell 2
        have c93 := HS9.out.bx.cell 3
        have HOA := Lib.hid (HS9.out.ow.alloc (.cells #[.string tu, .int .i64 nv, .bool gx, .string tc] 39))
        have HBK := Lib.hid (show Blk ((w8.setCell ⟨w3.heap.size, 3, none⟩ (.string tc)).alloc (.cells #[.string tu, .int .i64 nv, .bool gx, .string tc] 39)) w8.heap.size 39 #[.string tu, .int .i64 nv, .bool gx, .string tc] from by
          have := Blk.new (w8.setCell ⟨w3.heap.size, 3, none⟩ (.string tc)) 39 #[.string tu, .int .i64 nv, .bool gx, .string tc]
          simpa [World.setCell] using this)
        have HSZ := Lib.hid (show w.heap.size ≤ ((w8.setCell ⟨w3.heap.size, 3, none⟩ (.string tc)).alloc (.cells #[.string tu, .int .i64 nv, .bool gx, .string tc] 39)).heap.size by
          have := HS9.out.tw.size
          simp at this ⊢; omega)
        clear h1 h2
        go_wp2_with (at_builtin; refine wpList_append_own _ rfl _ _ 23 rfl w.heap.size 39 i0 _ 4 48 Try.underlying23 hi hz0 hz1 hz2 rfl (by decide) _ _ _ rfl HOA.out ⟨w8.heap.size, 0, none⟩ 1 1 [.string tu, .int .i64 nv, .bool gx, .string tc] rfl rfl ?c1 ?c2 ?c3 ?c4 ?c5 ?_)
        case c1 =>
          intro j u hj
          have e := HBK.out.cell j
          rw [show (⟨w8.heap.size, 0, none⟩ : Addr).add j = ⟨w8.heap.size, j, none⟩ by unfold Addr.add; split <;> simp_all, e, ← hj]
          simp
        case c2 =>
          intro u hu
          simp only [List.mem_cons, List.not_mem_nil, or_false] at hu
          rcases hu with rfl | rfl | rfl | rfl <;> rfl
        case c3 => unfold maxLen; omega
        case c4 => omega
        case c5 => exact HSZ.out
        intro v' w9 h1 h2 h3
        have HO9 := Lib.hid h1
        have HF9 := Lib.hid (HS9.out.fin h2)
        clear h1 h2 h3
        go_wp2
        refine ⟨⟨N, acc ++ [⟨tu, nv, gx, tc⟩], p4, y3, by omega, rfl, ⟨HF9.out.1, ?_, HF9.out.2, hG, hg, ?_, fun e => ?_⟩, H0.out⟩, by simp [intOf]⟩
        · rw [itsC_snoc, List.length_append]
          exact HO9.out
        · rw [List.length_append]
          show acc.length + 1 ≤ _
          omega
        · rw [List.length_append]
          have := hst.2 e
          show acc.length + 1 ≤ _
          omega
end
end Go.Proofs.Ytdoldjfabgcgbaa
