/- Texts of one proof, joined. -/
import Derived.Test.YtphijnkiiokieaaGreatDoorZau
import Derived.Test.YtphijnkiiokieaaGreatDoorZbh
set_option linter.unusedVariables false
set_option linter.unusedSimpArgs false
set_option maxRecDepth 100000
set_option maxHeartbeats 80000000
namespace Go.Proofs.YtphijnkiiokieaaGreatDoor
open Go.RowKit
open Go.Lib hiding intOf
theorem rdec_out {cs : Array Value} (hc : cs.size = 11) {R : Ending → World → Prop} {a : Act} {w : World} {g : Nat} (h2 : a.tmps.getD 4 undef = .pointer (some ⟨g, 0, none⟩)) (hd : a.defers = []) (hg : Blk w g 26 cs)
  (hR : R (.returned (.tuple #[.agg cs, a.tmps.getD 5 undef])) w) : bodyPost Tryz.prog Tryz.f13 R .ret a w :=
 bodyPost_ret (results_cell1 (fn := Tryz.f13) rfl a.tmps Tryz.prog w g 26 cs (0, 0) _ h2 hg Tryz.underlying26 (by rw [hc]; rfl)) hd hR
theorem wp_world {P : Program} {c : Code} {Q : Exit → Act → World → Prop} {a : Act} {V w : World} {g : Nat} {cs : Array Value} (f : ∀ W, Blk W g 26 cs → Below w.heap.size w W → c.wp P Q a W) (h1 : Blk V g 26 cs) (h2 : Below w.heap.size w V) : c.wp P Q a V := f V h1 h2
theorem decQ_ref {k : Int} (l : List UInt8) (hk : kindB k = true) : decQ k l = if ((refQ k l).2.e == 0 && decide ((refQ k l).2.p = l.length)) = false then (rqZ, 1) else if checkQ (refQ k l).1 ≠ 0 then (rqZ, checkQ (refQ k l).1) else ((refQ k l).1, 0) := by
 unfold decQ
 rw [if_neg (by rw [hk]; decide), ← (refq_code k l).1]
 cases hd : donQ k l with
 | false => rfl
 | true => rw [(refq_code k l).2 hd]
structure Dr (w0 wr : World) (g R X : Nat) (cs : Array Value) (A : Option Addr) (cap b off : Nat) (l : List UInt8) (q : Ps) (A2 : Option Addr) (cap2 b2 : Nat) (xs : List Opn) : Prop where
 rr : Rr wr g A cap b off l q.p q.e
 rb : Blk wr R 26 zero11
 bx : Blk wr X 26 cs
 bel : Below w0.heap.size w0 wr
 hR : w0.heap.size ≤ R
 hg : R < g
 hX : g < X
 js : Ops wr A2 xs.length cap2 b2 0 xs
 hb : 0 < xs.length → X < b2
 hl : 0 < l.length → b < R
section
variable {w0 wr w' : World} {g R X : Nat} {cs : Array Value} {A : Option Addr} {cap b off : Nat} {l : List UInt8} {q q' : Ps} {A2 : Option Addr} {cap2 b2 : Nat} {xs : List Opn}
theorem Dr.call (h : Dr w0 wr g R X cs A cap b off l q A2 cap2 b2 xs) (hr : Rr w' g A cap b off l q'.p q'.e) (ht : Tg wr w' g) : Dr w0 w' g R X cs A cap b off l q' A2 cap2 b2 xs := by
 have h1 := h.hR; have h2 := h.hg; have h3 := h.hX
 exact ⟨hr, (ht.block R h.rb.lt (fun e => by cases e; omega)).trans h.rb, (ht.block X h.bx.lt (fun e => by cases e; omega)).trans h.bx, h.bel.trans (ht.below (by omega) h.bel.size), h1, h2, h3, h.js.blk ht.size (fun hl => ht.block b2 (h.js.addr hl).2 (fun e => by cases e; have := h.hb hl; omega)), h.hb, h.hl⟩
theorem Dr.set (h : Dr w0 wr g R X cs A cap b off l q A2 cap2 b2 xs) (i : Nat) (u : Value) : Dr w0 (wr.setCell ⟨X, i, none⟩ u) g R X (cs.setIfInBounds i u) A cap b off l q A2 cap2 b2 xs := by
 have h1 := h.hR; have h2 := h.hg; have h3 := h.hX
 exact ⟨h.rr.far i (by omega) (fun hl => by have := h.hl hl; omega) u, h.rb.far (p := ⟨X, i, none⟩) (by show R ≠ X; omega) u, h.bx.set_ i u, h.bel.setCell (p := ⟨X, i, none⟩) (by show _ ≤ X; omega) u, h1, h2, h3, h.js.blk (by simp [World.setCell]) (fun hl => Below.heap_setCell _ _ _ _ (by have := h.hb hl; show b2 ≠ X; omega)), h.hb, h.hl⟩
theorem Dr.keep (h : Dr w0 wr g R X cs A cap b off l q A2 cap2 b2 xs) (hb : Below wr.heap.size wr w') : Dr w0 w' g R X cs A cap b off l q A2 cap2 b2 xs := h.call (h.rr.keep hb) (Tg.of hb)
theorem Dr.start {w : World} (h : Byt w A l.length cap b off l) (cs : Array Value) : Dr w (((w.alloc (.cells zero11 26)).alloc (.cells #[.slice A l.length cap, .int .i64 0, .int .i64 0] 66)).alloc (.cells cs 26)) (w.heap.size + 1) w.heap.size (w.heap.size + 1 + 1) cs A cap b off l ⟨0, 0⟩ none 0 0 [] := by
 have hb1 : Below w.heap.size w (w.alloc (.cells zero11 26)) := (Below.refl _ _).alloc (Nat.le_refl _) _; have e1 : (w.alloc (.cells zero11 26)).heap.size = w.heap.size + 1 := by simp
 have hb2 : Below (w.alloc (.cells zero11 26)).heap.size (w.alloc (.cells zero11 26)) ((w.alloc (.cells zero11 26)).alloc (.cells #[.slice A l.length cap, .int .i64 0, .int .i64 0] 66)) := (Below.refl _ _).alloc (Nat.le_refl _) _; have e2 : ((w.alloc (.cells zero11 26)).alloc (.cells #[.slice A l.length cap, .int .i64 0, .int .i64 0] 66)).heap.size = w.heap.size + 1 + 1 := by simp
 have hb3 : Below _ _ (((w.alloc (.cells zero11 26)).alloc (.cells #[.slice A l.length cap, .int .i64 0, .int .i64 0] 66)).alloc (.cells cs 26)) := (Below.refl (((w.alloc (.cells zero11 26)).alloc (.cells #[.slice A l.length cap, .int .i64 0, .int .i64 0] 66))).heap.size _).alloc (Nat.le_refl _) _; have r0 : Blk (w.alloc (.cells zero11 26)) w.heap.size 26 zero11 := Blk.new w _ _; have r1 := r0.below hb2 r0.lt; have r2 := r1.below hb3 r1.lt; have g0 : Blk ((w.alloc (.cells zero11 26)).alloc (.cells #[.slice A l.length cap, .int .i64 0, .int .i64 0] 66)) (w.heap.size + 1) 66 #[.slice A l.length cap, .int .i64 0, .int .i64 0] := by have := Blk.new (w.alloc (.cells zero11 26)) 66 #[.slice A l.length cap, .int .i64 0, .int .i64 0]; rwa [e1] at this
 have g1 := g0.below hb3 g0.lt; have x0 : Blk (((w.alloc (.cells zero11 26)).alloc (.cells #[.slice A l.length cap, .int .i64 0, .int .i64 0] 66)).alloc (.cells cs 26)) (w.heap.size + 1 + 1) 26 cs := by have := Blk.new ((w.alloc (.cells zero11 26)).alloc (.cells #[.slice A l.length cap, .int .i64 0, .int .i64 0] 66)) 26 cs; rwa [e2] at this
 have hB : Below w.heap.size w (((w.alloc (.cells zero11 26)).alloc (.cells #[.slice A l.length cap, .int .i64 0, .int .i64 0] 66)).alloc (.cells cs 26)) := (hb1.trans (hb2.mono (by rw [e1]; omega))).trans (hb3.mono (by rw [e2]; omega))
 exact ⟨⟨g1, h.below hB, fun hl => by have := (h.addr hl).2; omega, Nat.zero_le _⟩, r2, x0, hB, Nat.le_refl _, by omega, by omega, ops_none _, fun h => absurd h (by simp), fun hl => (h.addr hl).2⟩
end
section
variable {w : World} {A : Option Addr} {len cap b off : Nat} {l : List UInt8}
theorem rdec_k1 (h : Byt w A l.length cap b off l) (hl : l.length ≤ 1000000) : Calls Tryz.prog 13 #[.int .i64 1, .slice A l.length cap] w (DecQ w (decQ 1 l)) := by
 have hk : kindB 1 = true := rfl; have HDR := Zh (decQ_ref l hk); obtain ⟨⟨v1, q1⟩, e1⟩ : ∃ z, textP 20000 l ⟨0, 0⟩ = z := ⟨_, rfl⟩; have HF1 := Zh (fun W (h : Rr W (w.heap.size + 1) A cap b off l (⟨0, 0⟩ : Ps).p (⟨0, 0⟩ : Ps).e) => (show Calls Tryz.prog 37 #[.pointer (some ⟨w.heap.size + 1, 0, none⟩), .int .i64 20000] W _ from xtext_any h hl 20000 (by decide))); rw [e1] at HF1; simp only at HF1; have z1 : v1.size ≤ 20000 := by have := textP_size l ⟨0, 0⟩; rw [e1] at this; exact this
 have eR : refQ 1 l = ((⟨1, v1, bE, bE, bE, 0, 0, [], 0, 0, 0⟩ : Rq), q1) := by
  have e0 : refQ 1 l = (⟨1, (textP 20000 l ⟨0, 0⟩).1, bE, bE, bE, 0, 0, [], 0, 0, 0⟩, (textP 20000 l ⟨0, 0⟩).2) := by
   unfold refQ
   simp only [show hT 1 = true by decide, show hC 1 = false by decide, show hU 1 = false by decide, show hK 1 = false by decide, show hN 1 = false by decide, show hO 1 = false by decide, show hW 1 = false by decide, show hM 1 = false by decide, show hI 1 = false by decide]
   rfl
  rw [e0]; simp only [e1]
 rw [eR] at HDR; simp only at HDR; have hsz : SzQ (⟨1, v1, bE, bE, bE, 0, 0, [], 0, 0, 0⟩ : Rq) := ⟨(by show ByteArray.size v1 ≤ _; omega), (by show ByteArray.size bE ≤ _; decide), (by show ByteArray.size bE ≤ _; decide), (by show ByteArray.size bE ≤ _; decide), (fun o ho => nomatch ho), (by simp)⟩; obtain ⟨c, hc⟩ : ∃ c, checkQ (⟨1, v1, bE, bE, bE, 0, 0, [], 0, 0, 0⟩ : Rq) = c := ⟨_, rfl⟩; rw [hc] at HDR; have HC := Zh (fun W A2 cap2 b2 (h : Ops W A2 0 cap2 b2 0 []) => hc ▸ rcheck_any (q := (⟨1, v1, bE, bE, bE, 0, 0, [], 0, 0, 0⟩ : Rq)) h hsz); have HLL := Zh hl; have hlI : (l.length : Int) ≤ 1000000 := by omega
 have HD0 := Zh (Dr.start h #[.int .i64 1, .string ⟨#[]⟩, .string ⟨#[]⟩, .string ⟨#[]⟩, .string ⟨#[]⟩, .int .i64 0, .int .i64 0, .slice none 0 0, .int .i64 0, .int .i64 0, .int .i64 0]); clear eR hsz hc h hk e1
 go_enter Tryz.func13, Tryz.ntmps13
 go_wp2_with fail
 refine (HF1.out _ HD0.out.rr).mono ?_; rintro _ y1 ⟨rfl, h1, h2⟩; have HE1 := Zh (HD0.out.call h1 h2); have g1_1 := HE1.out.bx.cell 1; have f1_1 := HE1.out.bx.frozen 1; have HD1 := Zh (HE1.out.set 1 (.string v1)); clear h1 h2; have rE := HD1.out.rr.c2
 by_cases he : (q1 : Ps).e = 0
 ·
  skip
  have heB : ((q1 : Ps).e != 0) = false := by simp [he]
  go_wp2_with fail
  refine (left_r HD1.out.rr HLL.out).mono ?_; rintro _ y20 ⟨rfl, hb⟩; have HK := Zh (HD1.out.keep hb); clear hb
  by_cases hp : (q1 : Ps).p = l.length
  ·
   have hpB : ((l.length : Int) - (((q1 : Ps).p : Nat) : Int) != 0) = false := by simp; omega
   have HD2 := Zh (show decQ 1 l = if c ≠ 0 then (rqZ, c) else ((⟨1, v1, bE, bE, bE, 0, 0, [], 0, 0, 0⟩ : Rq), 0) by rw [HDR.out, if_neg (by simp [he, hp])]); obtain ⟨s0, s1, s2, s3, s4, s5, s6, s7, s8, s9, s10⟩ := cs11 HK.out.bx
   go_wp2_with fail
   refine (HC.out _ _ _ _ HK.out.js).mono ?_; rintro _ y21 ⟨rfl, hb⟩; have HJ := Zh (HK.out.keep hb); clear hb; obtain ⟨rc0, rf0, rc1, rf1, rc2, rf2, rc3, rf3, rc4, rf4, rc5, rf5, rc6, rf6, rc7, rf7, rc8, rf8, rc9, rf9, rc10, rf10⟩ := cz11 HJ.out.rb; obtain ⟨t0, t1, t2, t3, t4, t5, t6, t7, t8, t9, t10⟩ := cs11 HJ.out.bx
   by_cases hz : c = 0
   ·
    have H0 := Zh (show decQ 1 l = ((⟨1, v1, bE, bE, bE, 0, 0, [], 0, 0, 0⟩ : Rq), 0) by rw [HD2.out, if_neg (by simpa using hz)]); have hz2 : (c != 0) = false := by simpa using hz
    go_wp2
    refine rdec_out rfl (g := w.heap.size) rfl rfl (put11 HJ.out.rb (.int .i64 1) (.string v1) (.string ⟨#[]⟩) (.string ⟨#[]⟩) (.string ⟨#[]⟩) (.int .i64 0) (.int .i64 0) (.slice none 0 0) (.int .i64 0) (.int .i64 0) (.int .i64 0)) ?_; rw [H0.out]
    exact ⟨_, _, _, rfl, HJ.out.js.blk (Nat.le_of_eq (size11 ..).symm) (fun h => absurd h (by simp)), fun h => absurd h (by simp), bel11 HJ.out.bel (Nat.le_refl _) (.int .i64 1) (.string v1) (.string ⟨#[]⟩) (.string ⟨#[]⟩) (.string ⟨#[]⟩) (.int .i64 0) (.int .i64 0) (.slice none 0 0) (.int .i64 0) (.int .i64 0) (.int .i64 0)⟩
   ·
    have H0 := Zh (show decQ 1 l = (rqZ, c) by rw [HD2.out, if_pos hz]); have hz2 : (c != 0) = true := by simpa using hz
    go_wp2
    exact rdec_out rfl (g := w.heap.size) rfl rfl (put11 HJ.out.rb _ _ _ _ _ _ _ _ _ _ _) (decQ_none H0.out (bel11 HJ.out.bel (Nat.le_refl _) _ _ _ _ _ _ _ _ _ _ _))
  ·
   have hpB : ((l.length : Int) - (((q1 : Ps).p : Nat) : Int) != 0) = true := by simp; omega
   have H0 := Zh (show decQ 1 l = (rqZ, 1) by rw [HDR.out, if_pos (by simp [hp])]); obtain ⟨rc0, rf0, rc1, rf1, rc2, rf2, rc3, rf3, rc4, rf4, rc5, rf5, rc6, rf6, rc7, rf7, rc8, rf8, rc9, rf9, rc10, rf10⟩ := cz11 HK.out.rb
   go_wp2
   exact rdec_out rfl (g := w.heap.size) rfl rfl (put11 HK.out.rb _ _ _ _ _ _ _ _ _ _ _) (decQ_none H0.out (bel11 HK.out.bel (Nat.le_refl _) _ _ _ _ _ _ _ _ _ _ _))
 ·
  have heB : ((q1 : Ps).e != 0) = true := by simp [he]
  have H0 := Zh (show decQ 1 l = (rqZ, 1) by rw [HDR.out, if_pos (by simp [he])]); obtain ⟨rc0, rf0, rc1, rf1, rc2, rf2, rc3, rf3, rc4, rf4, rc5, rf5, rc6, rf6, rc7, rf7, rc8, rf8, rc9, rf9, rc10, rf10⟩ := cz11 HD1.out.rb
  go_wp2
  exact rdec_out rfl (g := w.heap.size) rfl rfl (put11 HD1.out.rb _ _ _ _ _ _ _ _ _ _ _) (decQ_none H0.out (bel11 HD1.out.bel (Nat.le_refl _) _ _ _ _ _ _ _ _ _ _ _))
theorem rdec_k2 (h : Byt w A l.length cap b off l) (hl : l.length ≤ 1000000) : Calls Tryz.prog 13 #[.int .i64 2, .slice A l.length cap] w (DecQ w (decQ 2 l)) := by
 have hk : kindB 2 = true := rfl; have HDR := Zh (decQ_ref l hk); obtain ⟨⟨v1, q1⟩, e1⟩ : ∃ z, textP 20000 l ⟨0, 0⟩ = z := ⟨_, rfl⟩; have HF1 := Zh (fun W (h : Rr W (w.heap.size + 1) A cap b off l (⟨0, 0⟩ : Ps).p (⟨0, 0⟩ : Ps).e) => (show Calls Tryz.prog 37 #[.pointer (some ⟨w.heap.size + 1, 0, none⟩), .int .i64 20000] W _ from xtext_any h hl 20000 (by decide))); rw [e1] at HF1; simp only at HF1; have z1 : v1.size ≤ 20000 := by have := textP_size l ⟨0, 0⟩; rw [e1] at this; exact this
 have eR : refQ 2 l = ((⟨2, bE, v1, bE, bE, 0, 0, [], 0, 0, 0⟩ : Rq), q1) := by
  have e0 : refQ 2 l = (⟨2, bE, (textP 20000 l ⟨0, 0⟩).1, bE, bE, 0, 0, [], 0, 0, 0⟩, (textP 20000 l ⟨0, 0⟩).2) := by
   unfold refQ
   simp only [show hT 2 = false by decide, show hC 2 = true by decide, show hU 2 = false by decide, show hK 2 = false by decide, show hN 2 = false by decide, show hO 2 = false by decide, show hW 2 = false by decide, show hM 2 = false by decide, show hI 2 = false by decide]
   rfl
  rw [e0]; simp only [e1]
 rw [eR] at HDR; simp only at HDR; have hsz : SzQ (⟨2, bE, v1, bE, bE, 0, 0, [], 0, 0, 0⟩ : Rq) := ⟨(by show ByteArray.size bE ≤ _; decide), (by show ByteArray.size v1 ≤ _; omega), (by show ByteArray.size bE ≤ _; decide), (by show ByteArray.size bE ≤ _; decide), (fun o ho => nomatch ho), (by simp)⟩; obtain ⟨c, hc⟩ : ∃ c, checkQ (⟨2, bE, v1, bE, bE, 0, 0, [], 0, 0, 0⟩ : Rq) = c := ⟨_, rfl⟩; rw [hc] at HDR; have HC := Zh (fun W A2 cap2 b2 (h : Ops W A2 0 cap2 b2 0 []) => hc ▸ rcheck_any (q := (⟨2, bE, v1, bE, bE, 0, 0, [], 0, 0, 0⟩ : Rq)) h hsz); have HLL := Zh hl; have hlI : (l.length : Int) ≤ 1000000 := by omega
 have HD0 := Zh (Dr.start h #[.int .i64 2, .string ⟨#[]⟩, .string ⟨#[]⟩, .string ⟨#[]⟩, .string ⟨#[]⟩, .int .i64 0, .int .i64 0, .slice none 0 0, .int .i64 0, .int .i64 0, .int .i64 0]); clear eR hsz hc h hk e1
 go_enter Tryz.func13, Tryz.ntmps13
 go_wp2_with fail
 refine (HF1.out _ HD0.out.rr).mono ?_; rintro _ y1 ⟨rfl, h1, h2⟩; have HE1 := Zh (HD0.out.call h1 h2); have g1_2 := HE1.out.bx.cell 2; have f1_2 := HE1.out.bx.frozen 2; have HD1 := Zh (HE1.out.set 2 (.string v1)); clear h1 h2; have rE := HD1.out.rr.c2
 by_cases he : (q1 : Ps).e = 0
 ·
  skip
  have heB : ((q1 : Ps).e != 0) = false := by simp [he]
  go_wp2_with fail
  refine (left_r HD1.out.rr HLL.out).mono ?_; rintro _ y20 ⟨rfl, hb⟩; have HK := Zh (HD1.out.keep hb); clear hb
  by_cases hp : (q1 : Ps).p = l.length
  ·
   have hpB : ((l.length : Int) - (((q1 : Ps).p : Nat) : Int) != 0) = false := by simp; omega
   have HD2 := Zh (show decQ 2 l = if c ≠ 0 then (rqZ, c) else ((⟨2, bE, v1, bE, bE, 0, 0, [], 0, 0, 0⟩ : Rq), 0) by rw [HDR.out, if_neg (by simp [he, hp])]); obtain ⟨s0, s1, s2, s3, s4, s5, s6, s7, s8, s9, s10⟩ := cs11 HK.out.bx
   go_wp2_with fail
   refine (HC.out _ _ _ _ HK.out.js).mono ?_; rintro _ y21 ⟨rfl, hb⟩; have HJ := Zh (HK.out.keep hb); clear hb; obtain ⟨rc0, rf0, rc1, rf1, rc2, rf2, rc3, rf3, rc4, rf4, rc5, rf5, rc6, rf6, rc7, rf7, rc8, rf8, rc9, rf9, rc10, rf10⟩ := cz11 HJ.out.rb; obtain ⟨t0, t1, t2, t3, t4, t5, t6, t7, t8, t9, t10⟩ := cs11 HJ.out.bx
   by_cases hz : c = 0
   ·
    have H0 := Zh (show decQ 2 l = ((⟨2, bE, v1, bE, bE, 0, 0, [], 0, 0, 0⟩ : Rq), 0) by rw [HD2.out, if_neg (by simpa using hz)]); have hz2 : (c != 0) = false := by simpa using hz
    go_wp2
    refine rdec_out rfl (g := w.heap.size) rfl rfl (put11 HJ.out.rb (.int .i64 2) (.string ⟨#[]⟩) (.string v1) (.string ⟨#[]⟩) (.string ⟨#[]⟩) (.int .i64 0) (.int .i64 0) (.slice none 0 0) (.int .i64 0) (.int .i64 0) (.int .i64 0)) ?_; rw [H0.out]
    exact ⟨_, _, _, rfl, HJ.out.js.blk (Nat.le_of_eq (size11 ..).symm) (fun h => absurd h (by simp)), fun h => absurd h (by simp), bel11 HJ.out.bel (Nat.le_refl _) (.int .i64 2) (.string ⟨#[]⟩) (.string v1) (.string ⟨#[]⟩) (.string ⟨#[]⟩) (.int .i64 0) (.int .i64 0) (.slice none 0 0) (.int .i64 0) (.int .i64 0) (.int .i64 0)⟩
   ·
    have H0 := Zh (show decQ 2 l = (rqZ, c) by rw [HD2.out, if_pos hz]); have hz2 : (c != 0) = true := by simpa using hz
    go_wp2
    exact rdec_out rfl (g := w.heap.size) rfl rfl (put11 HJ.out.rb _ _ _ _ _ _ _ _ _ _ _) (decQ_none H0.out (bel11 HJ.out.bel (Nat.le_refl _) _ _ _ _ _ _ _ _ _ _ _))
  ·
   have hpB : ((l.length : Int) - (((q1 : Ps).p : Nat) : Int) != 0) = true := by simp; omega
   have H0 := Zh (show decQ 2 l = (rqZ, 1) by rw [HDR.out, if_pos (by simp [hp])]); obtain ⟨rc0, rf0, rc1, rf1, rc2, rf2, rc3, rf3, rc4, rf4, rc5, rf5, rc6, rf6, rc7, rf7, rc8, rf8, rc9, rf9, rc10, rf10⟩ := cz11 HK.out.rb
   go_wp2
   exact rdec_out rfl (g := w.heap.size) rfl rfl (put11 HK.out.rb _ _ _ _ _ _ _ _ _ _ _) (decQ_none H0.out (bel11 HK.out.bel (Nat.le_refl _) _ _ _ _ _ _ _ _ _ _ _))
 ·
  have heB : ((q1 : Ps).e != 0) = true := by simp [he]
  have H0 := Zh (show decQ 2 l = (rqZ, 1) by rw [HDR.out, if_pos (by simp [he])]); obtain ⟨rc0, rf0, rc1, rf1, rc2, rf2, rc3, rf3, rc4, rf4, rc5, rf5, rc6, rf6, rc7, rf7, rc8, rf8, rc9, rf9, rc10, rf10⟩ := cz11 HD1.out.rb
  go_wp2
  exact rdec_out rfl (g := w.heap.size) rfl rfl (put11 HD1.out.rb _ _ _ _ _ _ _ _ _ _ _) (decQ_none H0.out (bel11 HD1.out.bel (Nat.le_refl _) _ _ _ _ _ _ _ _ _ _ _))
theorem rdec_k3 (h : Byt w A l.length cap b off l) (hl : l.length ≤ 1000000) : Calls Tryz.prog 13 #[.int .i64 3, .slice A l.length cap] w (DecQ w (decQ 3 l)) := by
 have hk : kindB 3 = true := rfl; have HDR := Zh (decQ_ref l hk); obtain ⟨⟨v1, q1⟩, e1⟩ : ∃ z, textP 20000 l ⟨0, 0⟩ = z := ⟨_, rfl⟩; have HF1 := Zh (fun W (h : Rr W (w.heap.size + 1) A cap b off l (⟨0, 0⟩ : Ps).p (⟨0, 0⟩ : Ps).e) => (show Calls Tryz.prog 37 #[.pointer (some ⟨w.heap.size + 1, 0, none⟩), .int .i64 20000] W _ from xtext_any h hl 20000 (by decide))); rw [e1] at HF1; simp only at HF1; have z1 : v1.size ≤ 20000 := by have := textP_size l ⟨0, 0⟩; rw [e1] at this; exact this
 have eR : refQ 3 l = ((⟨3, bE, v1, bE, bE, 0, 0, [], 0, 0, 0⟩ : Rq), q1) := by
  have e0 : refQ 3 l = (⟨3, bE, (textP 20000 l ⟨0, 0⟩).1, bE, bE, 0, 0, [], 0, 0, 0⟩, (textP 20000 l ⟨0, 0⟩).2) := by
   unfold refQ
   simp only [show hT 3 = false by decide, show hC 3 = true by decide, show hU 3 = false by decide, show hK 3 = false by decide, show hN 3 = false by decide, show hO 3 = false by decide, show hW 3 = false by decide, show hM 3 = false by decide, show hI 3 = false by decide]
   rfl
  rw [e0]; simp only [e1]
 rw [eR] at HDR; simp only at HDR; have hsz : SzQ (⟨3, bE, v1, bE, bE, 0, 0, [], 0, 0, 0⟩ : Rq) := ⟨(by show ByteArray.size bE ≤ _; decide), (by show ByteArray.size v1 ≤ _; omega), (by show ByteArray.size bE ≤ _; decide), (by show ByteArray.size bE ≤ _; decide), (fun o ho => nomatch ho), (by simp)⟩; obtain ⟨c, hc⟩ : ∃ c, checkQ (⟨3, bE, v1, bE, bE, 0, 0, [], 0, 0, 0⟩ : Rq) = c := ⟨_, rfl⟩; rw [hc] at HDR; have HC := Zh (fun W A2 cap2 b2 (h : Ops W A2 0 cap2 b2 0 []) => hc ▸ rcheck_any (q := (⟨3, bE, v1, bE, bE, 0, 0, [], 0, 0, 0⟩ : Rq)) h hsz); have HLL := Zh hl; have hlI : (l.length : Int) ≤ 1000000 := by omega
 have HD0 := Zh (Dr.start h #[.int .i64 3, .string ⟨#[]⟩, .string ⟨#[]⟩, .string ⟨#[]⟩, .string ⟨#[]⟩, .int .i64 0, .int .i64 0, .slice none 0 0, .int .i64 0, .int .i64 0, .int .i64 0]); clear eR hsz hc h hk e1
 go_enter Tryz.func13, Tryz.ntmps13
 go_wp2_with fail
 refine (HF1.out _ HD0.out.rr).mono ?_; rintro _ y1 ⟨rfl, h1, h2⟩; have HE1 := Zh (HD0.out.call h1 h2); have g1_2 := HE1.out.bx.cell 2; have f1_2 := HE1.out.bx.frozen 2; have HD1 := Zh (HE1.out.set 2 (.string v1)); clear h1 h2; have rE := HD1.out.rr.c2
 by_cases he : (q1 : Ps).e = 0
 ·
  skip
  have heB : ((q1 : Ps).e != 0) = false := by simp [he]
  go_wp2_with fail
  refine (left_r HD1.out.rr HLL.out).mono ?_; rintro _ y20 ⟨rfl, hb⟩; have HK := Zh (HD1.out.keep hb); clear hb
  by_cases hp : (q1 : Ps).p = l.length
  ·
   have hpB : ((l.length : Int) - (((q1 : Ps).p : Nat) : Int) != 0) = false := by simp; omega
   have HD2 := Zh (show decQ 3 l = if c ≠ 0 then (rqZ, c) else ((⟨3, bE, v1, bE, bE, 0, 0, [], 0, 0, 0⟩ : Rq), 0) by rw [HDR.out, if_neg (by simp [he, hp])]); obtain ⟨s0, s1, s2, s3, s4, s5, s6, s7, s8, s9, s10⟩ := cs11 HK.out.bx
   go_wp2_with fail
   refine (HC.out _ _ _ _ HK.out.js).mono ?_; rintro _ y21 ⟨rfl, hb⟩; have HJ := Zh (HK.out.keep hb); clear hb; obtain ⟨rc0, rf0, rc1, rf1, rc2, rf2, rc3, rf3, rc4, rf4, rc5, rf5, rc6, rf6, rc7, rf7, rc8, rf8, rc9, rf9, rc10, rf10⟩ := cz11 HJ.out.rb; obtain ⟨t0, t1, t2, t3, t4, t5, t6, t7, t8, t9, t10⟩ := cs11 HJ.out.bx
   by_cases hz : c = 0
   ·
    have H0 := Zh (show decQ 3 l = ((⟨3, bE, v1, bE, bE, 0, 0, [], 0, 0, 0⟩ : Rq), 0) by rw [HD2.out, if_neg (by simpa using hz)]); have hz2 : (c != 0) = false := by simpa using hz
    go_wp2
    refine rdec_out rfl (g := w.heap.size) rfl rfl (put11 HJ.out.rb (.int .i64 3) (.string ⟨#[]⟩) (.string v1) (.string ⟨#[]⟩) (.string ⟨#[]⟩) (.int .i64 0) (.int .i64 0) (.slice none 0 0) (.int .i64 0) (.int .i64 0) (.int .i64 0)) ?_; rw [H0.out]
    exact ⟨_, _, _, rfl, HJ.out.js.blk (Nat.le_of_eq (size11 ..).symm) (fun h => absurd h (by simp)), fun h => absurd h (by simp), bel11 HJ.out.bel (Nat.le_refl _) (.int .i64 3) (.string ⟨#[]⟩) (.string v1) (.string ⟨#[]⟩) (.string ⟨#[]⟩) (.int .i64 0) (.int .i64 0) (.slice none 0 0) (.int .i64 0) (.int .i64 0) (.int .i64 0)⟩
   ·
    have H0 := Zh (show decQ 3 l = (rqZ, c) by rw [HD2.out, if_pos hz]); have hz2 : (c != 0) = true := by simpa using hz
    go_wp2
    exact rdec_out rfl (g := w.heap.size) rfl rfl (put11 HJ.out.rb _ _ _ _ _ _ _ _ _ _ _) (decQ_none H0.out (bel11 HJ.out.bel (Nat.le_refl _) _ _ _ _ _ _ _ _ _ _ _))
  ·
   have hpB : ((l.length : Int) - (((q1 : Ps).p : Nat) : Int) != 0) = true := by simp; omega
   have H0 := Zh (show decQ 3 l = (rqZ, 1) by rw [HDR.out, if_pos (by simp [hp])]); obtain ⟨rc0, rf0, rc1, rf1, rc2, rf2, rc3, rf3, rc4, rf4, rc5, rf5, rc6, rf6, rc7, rf7, rc8, rf8, rc9, rf9, rc10, rf10⟩ := cz11 HK.out.rb
   go_wp2
   exact rdec_out rfl (g := w.heap.size) rfl rfl (put11 HK.out.rb _ _ _ _ _ _ _ _ _ _ _) (decQ_none H0.out (bel11 HK.out.bel (Nat.le_refl _) _ _ _ _ _ _ _ _ _ _ _))
 ·
  have heB : ((q1 : Ps).e != 0) = true := by simp [he]
  have H0 := Zh (show decQ 3 l = (rqZ, 1) by rw [HDR.out, if_pos (by simp [he])]); obtain ⟨rc0, rf0, rc1, rf1, rc2, rf2, rc3, rf3, rc4, rf4, rc5, rf5, rc6, rf6, rc7, rf7, rc8, rf8, rc9, rf9, rc10, rf10⟩ := cz11 HD1.out.rb
  go_wp2
  exact rdec_out rfl (g := w.heap.size) rfl rfl (put11 HD1.out.rb _ _ _ _ _ _ _ _ _ _ _) (decQ_none H0.out (bel11 HD1.out.bel (Nat.le_refl _) _ _ _ _ _ _ _ _ _ _ _))
end
section
variable {w : World} {A : Option Addr} {len cap b off : Nat} {l : List UInt8}
theorem rdec_k4 (h : Byt w A l.length cap b off l) (hl : l.length ≤ 1000000) : Calls Tryz.prog 13 #[.int .i64 4, .slice A l.length cap] w (DecQ w (decQ 4 l)) := by
 have hk : kindB 4 = true := rfl; have HDR := Zh (decQ_ref l hk); obtain ⟨⟨v1, q1⟩, e1⟩ : ∃ z, textP 20000 l ⟨0, 0⟩ = z := ⟨_, rfl⟩; have HF1 := Zh (fun W (h : Rr W (w.heap.size + 1) A cap b off l (⟨0, 0⟩ : Ps).p (⟨0, 0⟩ : Ps).e) => (show Calls Tryz.prog 37 #[.pointer (some ⟨w.heap.size + 1, 0, none⟩), .int .i64 20000] W _ from xtext_any h hl 20000 (by decide))); rw [e1] at HF1; simp only at HF1; have z1 : v1.size ≤ 20000 := by have := textP_size l ⟨0, 0⟩; rw [e1] at this; exact this
 obtain ⟨⟨v2, q2⟩, e2⟩ : ∃ z, textP 20000 l q1 = z := ⟨_, rfl⟩; have HF2 := Zh (fun W (h : Rr W (w.heap.size + 1) A cap b off l (q1 : Ps).p (q1 : Ps).e) => (show Calls Tryz.prog 37 #[.pointer (some ⟨w.heap.size + 1, 0, none⟩), .int .i64 20000] W _ from xtext_any h hl 20000 (by decide))); rw [e2] at HF2; simp only at HF2; have z2 : v2.size ≤ 20000 := by have := textP_size l q1; rw [e2] at this; exact this
 obtain ⟨⟨v3, q3⟩, e3⟩ : ∃ z, textP 20000 l q2 = z := ⟨_, rfl⟩; have HF3 := Zh (fun W (h : Rr W (w.heap.size + 1) A cap b off l (q2 : Ps).p (q2 : Ps).e) => (show Calls Tryz.prog 37 #[.pointer (some ⟨w.heap.size + 1, 0, none⟩), .int .i64 20000] W _ from xtext_any h hl 20000 (by decide))); rw [e3] at HF3; simp only at HF3; have z3 : v3.size ≤ 20000 := by have := textP_size l q2; rw [e3] at this; exact this
 obtain ⟨⟨⟨va4, vb4⟩, q4⟩, e4⟩ : ∃ z, condX l q3 = z := ⟨_, rfl⟩; have HF4 := Zh (fun W (h : Rr W (w.heap.size + 1) A cap b off l (q3 : Ps).p (q3 : Ps).e) => rcond_any h hl); rw [e4] at HF4; simp only at HF4; have eR : refQ 4 l = ((⟨4, bE, v1, v2, v3, va4, vb4, [], 0, 0, 0⟩ : Rq), q4) := by
  have e0 : refQ 4 l = (⟨4, bE, (textP 20000 l ⟨0, 0⟩).1, (textP 20000 l (textP 20000 l ⟨0, 0⟩).2).1, (textP 20000 l (textP 20000 l (textP 20000 l ⟨0, 0⟩).2).2).1, (condX l (textP 20000 l (textP 20000 l (textP 20000 l ⟨0, 0⟩).2).2).2).1.1, (condX l (textP 20000 l (textP 20000 l (textP 20000 l ⟨0, 0⟩).2).2).2).1.2, [], 0, 0, 0⟩, (condX l (textP 20000 l (textP 20000 l (textP 20000 l ⟨0, 0⟩).2).2).2).2) := by
   unfold refQ
   simp only [show hT 4 = false by decide, show hC 4 = true by decide, show hU 4 = true by decide, show hK 4 = true by decide, show hN 4 = true by decide, show hO 4 = false by decide, show hW 4 = false by decide, show hM 4 = false by decide, show hI 4 = false by decide]
   rfl
  rw [e0]; simp only [e1]; simp only [e2]; simp only [e3]; simp only [e4]
 rw [eR] at HDR; simp only at HDR; have hsz : SzQ (⟨4, bE, v1, v2, v3, va4, vb4, [], 0, 0, 0⟩ : Rq) := ⟨(by show ByteArray.size bE ≤ _; decide), (by show ByteArray.size v1 ≤ _; omega), (by show ByteArray.size v2 ≤ _; omega), (by show ByteArray.size v3 ≤ _; omega), (fun o ho => nomatch ho), (by simp)⟩; obtain ⟨c, hc⟩ : ∃ c, checkQ (⟨4, bE, v1, v2, v3, va4, vb4, [], 0, 0, 0⟩ : Rq) = c := ⟨_, rfl⟩; rw [hc] at HDR; have HC := Zh (fun W A2 cap2 b2 (h : Ops W A2 0 cap2 b2 0 []) => hc ▸ rcheck_any (q := (⟨4, bE, v1, v2, v3, va4, vb4, [], 0, 0, 0⟩ : Rq)) h hsz); have HLL := Zh hl; have hlI : (l.length : Int) ≤ 1000000 := by omega
 have HD0 := Zh (Dr.start h #[.int .i64 4, .string ⟨#[]⟩, .string ⟨#[]⟩, .string ⟨#[]⟩, .string ⟨#[]⟩, .int .i64 0, .int .i64 0, .slice none 0 0, .int .i64 0, .int .i64 0, .int .i64 0]); clear eR hsz hc h hk e1 e2 e3 e4
 go_enter Tryz.func13, Tryz.ntmps13
 go_wp2_with fail
 refine (HF1.out _ HD0.out.rr).mono ?_; rintro _ y1 ⟨rfl, h1, h2⟩; have HE1 := Zh (HD0.out.call h1 h2); have g1_2 := HE1.out.bx.cell 2; have f1_2 := HE1.out.bx.frozen 2; have HD1 := Zh (HE1.out.set 2 (.string v1)); clear h1 h2
 go_wp2_with fail
 refine (HF2.out _ HD1.out.rr).mono ?_; rintro _ y2 ⟨rfl, h1, h2⟩; have HE2 := Zh (HD1.out.call h1 h2); have g2_3 := HE2.out.bx.cell 3; have f2_3 := HE2.out.bx.frozen 3; have HD2 := Zh (HE2.out.set 3 (.string v2)); clear h1 h2
 go_wp2_with fail
 refine (HF3.out _ HD2.out.rr).mono ?_; rintro _ y3 ⟨rfl, h1, h2⟩; have HE3 := Zh (HD2.out.call h1 h2); have g3_4 := HE3.out.bx.cell 4; have f3_4 := HE3.out.bx.frozen 4; have HD3 := Zh (HE3.out.set 4 (.string v3)); clear h1 h2
 go_wp2_with fail
 refine (HF4.out _ HD3.out.rr).mono ?_; rintro _ y4 ⟨rfl, h1, h2⟩; have HE4 := Zh (HD3.out.call h1 h2); have g4_5 := HE4.out.bx.cell 5; have f4_5 := HE4.out.bx.frozen 5; have g4_6 := HE4.out.bx.cell 6; have f4_6 := HE4.out.bx.frozen 6; have HM4_0 := Zh (HE4.out.set 5 (.int .i64 va4)); have HD4 := Zh (HM4_0.out.set 6 (.int .i64 vb4)); clear h1 h2; have rE := HD4.out.rr.c2
 by_cases he : (q4 : Ps).e = 0
 ·
  skip
  have heB : ((q4 : Ps).e != 0) = false := by simp [he]
  go_wp2_with fail
  refine (left_r HD4.out.rr HLL.out).mono ?_; rintro _ y20 ⟨rfl, hb⟩; have HK := Zh (HD4.out.keep hb); clear hb
  by_cases hp : (q4 : Ps).p = l.length
  ·
   have hpB : ((l.length : Int) - (((q4 : Ps).p : Nat) : Int) != 0) = false := by simp; omega
   have HD2 := Zh (show decQ 4 l = if c ≠ 0 then (rqZ, c) else ((⟨4, bE, v1, v2, v3, va4, vb4, [], 0, 0, 0⟩ : Rq), 0) by rw [HDR.out, if_neg (by simp [he, hp])]); obtain ⟨s0, s1, s2, s3, s4, s5, s6, s7, s8, s9, s10⟩ := cs11 HK.out.bx
   go_wp2_with fail
   refine (HC.out _ _ _ _ HK.out.js).mono ?_; rintro _ y21 ⟨rfl, hb⟩; have HJ := Zh (HK.out.keep hb); clear hb; obtain ⟨rc0, rf0, rc1, rf1, rc2, rf2, rc3, rf3, rc4, rf4, rc5, rf5, rc6, rf6, rc7, rf7, rc8, rf8, rc9, rf9, rc10, rf10⟩ := cz11 HJ.out.rb; obtain ⟨t0, t1, t2, t3, t4, t5, t6, t7, t8, t9, t10⟩ := cs11 HJ.out.bx
   by_cases hz : c = 0
   ·
    have H0 := Zh (show decQ 4 l = ((⟨4, bE, v1, v2, v3, va4, vb4, [], 0, 0, 0⟩ : Rq), 0) by rw [HD2.out, if_neg (by simpa using hz)]); have hz2 : (c != 0) = false := by simpa using hz
    go_wp2
    refine rdec_out rfl (g := w.heap.size) rfl rfl (put11 HJ.out.rb (.int .i64 4) (.string ⟨#[]⟩) (.string v1) (.string v2) (.string v3) (.int .i64 va4) (.int .i64 vb4) (.slice none 0 0) (.int .i64 0) (.int .i64 0) (.int .i64 0)) ?_; rw [H0.out]
    exact ⟨_, _, _, rfl, HJ.out.js.blk (Nat.le_of_eq (size11 ..).symm) (fun h => absurd h (by simp)), fun h => absurd h (by simp), bel11 HJ.out.bel (Nat.le_refl _) (.int .i64 4) (.string ⟨#[]⟩) (.string v1) (.string v2) (.string v3) (.int .i64 va4) (.int .i64 vb4) (.slice none 0 0) (.int .i64 0) (.int .i64 0) (.int .i64 0)⟩
   ·
    have H0 := Zh (show decQ 4 l = (rqZ, c) by rw [HD2.out, if_pos hz]); have hz2 : (c != 0) = true := by simpa using hz
    go_wp2
    exact rdec_out rfl (g := w.heap.size) rfl rfl (put11 HJ.out.rb _ _ _ _ _ _ _ _ _ _ _) (decQ_none H0.out (bel11 HJ.out.bel (Nat.le_refl _) _ _ _ _ _ _ _ _ _ _ _))
  ·
   have hpB : ((l.length : Int) - (((q4 : Ps).p : Nat) : Int) != 0) = true := by simp; omega
   have H0 := Zh (show decQ 4 l = (rqZ, 1) by rw [HDR.out, if_pos (by simp [hp])]); obtain ⟨rc0, rf0, rc1, rf1, rc2, rf2, rc3, rf3, rc4, rf4, rc5, rf5, rc6, rf6, rc7, rf7, rc8, rf8, rc9, rf9, rc10, rf10⟩ := cz11 HK.out.rb
   go_wp2
   exact rdec_out rfl (g := w.heap.size) rfl rfl (put11 HK.out.rb _ _ _ _ _ _ _ _ _ _ _) (decQ_none H0.out (bel11 HK.out.bel (Nat.le_refl _) _ _ _ _ _ _ _ _ _ _ _))
 ·
  have heB : ((q4 : Ps).e != 0) = true := by simp [he]
  have H0 := Zh (show decQ 4 l = (rqZ, 1) by rw [HDR.out, if_pos (by simp [he])]); obtain ⟨rc0, rf0, rc1, rf1, rc2, rf2, rc3, rf3, rc4, rf4, rc5, rf5, rc6, rf6, rc7, rf7, rc8, rf8, rc9, rf9, rc10, rf10⟩ := cz11 HD4.out.rb
  go_wp2
  exact rdec_out rfl (g := w.heap.size) rfl rfl (put11 HD4.out.rb _ _ _ _ _ _ _ _ _ _ _) (decQ_none H0.out (bel11 HD4.out.bel (Nat.le_refl _) _ _ _ _ _ _ _ _ _ _ _))
theorem rdec_k5 (h : Byt w A l.length cap b off l) (hl : l.length ≤ 1000000) : Calls Tryz.prog 13 #[.int .i64 5, .slice A l.length cap] w (DecQ w (decQ 5 l)) := by
 have hk : kindB 5 = true := rfl; have HDR := Zh (decQ_ref l hk); obtain ⟨⟨v1, q1⟩, e1⟩ : ∃ z, textP 20000 l ⟨0, 0⟩ = z := ⟨_, rfl⟩; have HF1 := Zh (fun W (h : Rr W (w.heap.size + 1) A cap b off l (⟨0, 0⟩ : Ps).p (⟨0, 0⟩ : Ps).e) => (show Calls Tryz.prog 37 #[.pointer (some ⟨w.heap.size + 1, 0, none⟩), .int .i64 20000] W _ from xtext_any h hl 20000 (by decide))); rw [e1] at HF1; simp only at HF1; have z1 : v1.size ≤ 20000 := by have := textP_size l ⟨0, 0⟩; rw [e1] at this; exact this
 obtain ⟨⟨v2, q2⟩, e2⟩ : ∃ z, textP 20000 l q1 = z := ⟨_, rfl⟩; have HF2 := Zh (fun W (h : Rr W (w.heap.size + 1) A cap b off l (q1 : Ps).p (q1 : Ps).e) => (show Calls Tryz.prog 37 #[.pointer (some ⟨w.heap.size + 1, 0, none⟩), .int .i64 20000] W _ from xtext_any h hl 20000 (by decide))); rw [e2] at HF2; simp only at HF2; have z2 : v2.size ≤ 20000 := by have := textP_size l q1; rw [e2] at this; exact this
 obtain ⟨⟨⟨va3, vb3⟩, q3⟩, e3⟩ : ∃ z, condX l q2 = z := ⟨_, rfl⟩; have HF3 := Zh (fun W (h : Rr W (w.heap.size + 1) A cap b off l (q2 : Ps).p (q2 : Ps).e) => rcond_any h hl); rw [e3] at HF3; simp only at HF3; have eR : refQ 5 l = ((⟨5, bE, v1, v2, bE, va3, vb3, [], 0, 0, 0⟩ : Rq), q3) := by
  have e0 : refQ 5 l = (⟨5, bE, (textP 20000 l ⟨0, 0⟩).1, (textP 20000 l (textP 20000 l ⟨0, 0⟩).2).1, bE, (condX l (textP 20000 l (textP 20000 l ⟨0, 0⟩).2).2).1.1, (condX l (textP 20000 l (textP 20000 l ⟨0, 0⟩).2).2).1.2, [], 0, 0, 0⟩, (condX l (textP 20000 l (textP 20000 l ⟨0, 0⟩).2).2).2) := by
   unfold refQ
   simp only [show hT 5 = false by decide, show hC 5 = true by decide, show hU 5 = true by decide, show hK 5 = false by decide, show hN 5 = true by decide, show hO 5 = false by decide, show hW 5 = false by decide, show hM 5 = false by decide, show hI 5 = false by decide]
   rfl
  rw [e0]; simp only [e1]; simp only [e2]; simp only [e3]
 rw [eR] at HDR; simp only at HDR; have hsz : SzQ (⟨5, bE, v1, v2, bE, va3, vb3, [], 0, 0, 0⟩ : Rq) := ⟨(by show ByteArray.size bE ≤ _; decide), (by show ByteArray.size v1 ≤ _; omega), (by show ByteArray.size v2 ≤ _; omega), (by show ByteArray.size bE ≤ _; decide), (fun o ho => nomatch ho), (by simp)⟩; obtain ⟨c, hc⟩ : ∃ c, checkQ (⟨5, bE, v1, v2, bE, va3, vb3, [], 0, 0, 0⟩ : Rq) = c := ⟨_, rfl⟩; rw [hc] at HDR; have HC := Zh (fun W A2 cap2 b2 (h : Ops W A2 0 cap2 b2 0 []) => hc ▸ rcheck_any (q := (⟨5, bE, v1, v2, bE, va3, vb3, [], 0, 0, 0⟩ : Rq)) h hsz); have HLL := Zh hl; have hlI : (l.length : Int) ≤ 1000000 := by omega
 have HD0 := Zh (Dr.start h #[.int .i64 5, .string ⟨#[]⟩, .string ⟨#[]⟩, .string ⟨#[]⟩, .string ⟨#[]⟩, .int .i64 0, .int .i64 0, .slice none 0 0, .int .i64 0, .int .i64 0, .int .i64 0]); clear eR hsz hc h hk e1 e2 e3
 go_enter Tryz.func13, Tryz.ntmps13
 go_wp2_with fail
 refine (HF1.out _ HD0.out.rr).mono ?_; rintro _ y1 ⟨rfl, h1, h2⟩; have HE1 := Zh (HD0.out.call h1 h2); have g1_2 := HE1.out.bx.cell 2; have f1_2 := HE1.out.bx.frozen 2; have HD1 := Zh (HE1.out.set 2 (.string v1)); clear h1 h2
 go_wp2_with fail
 refine (HF2.out _ HD1.out.rr).mono ?_; rintro _ y2 ⟨rfl, h1, h2⟩; have HE2 := Zh (HD1.out.call h1 h2); have g2_3 := HE2.out.bx.cell 3; have f2_3 := HE2.out.bx.frozen 3; have HD2 := Zh (HE2.out.set 3 (.string v2)); clear h1 h2
 go_wp2_with fail
 refine (HF3.out _ HD2.out.rr).mono ?_; rintro _ y3 ⟨rfl, h1, h2⟩; have HE3 := Zh (HD2.out.call h1 h2); have g3_5 := HE3.out.bx.cell 5; have f3_5 := HE3.out.bx.frozen 5; have g3_6 := HE3.out.bx.cell 6; have f3_6 := HE3.out.bx.frozen 6; have HM3_0 := Zh (HE3.out.set 5 (.int .i64 va3)); have HD3 := Zh (HM3_0.out.set 6 (.int .i64 vb3)); clear h1 h2; have rE := HD3.out.rr.c2
 by_cases he : (q3 : Ps).e = 0
 ·
  skip
  have heB : ((q3 : Ps).e != 0) = false := by simp [he]
  go_wp2_with fail
  refine (left_r HD3.out.rr HLL.out).mono ?_; rintro _ y20 ⟨rfl, hb⟩; have HK := Zh (HD3.out.keep hb); clear hb
  by_cases hp : (q3 : Ps).p = l.length
  ·
   have hpB : ((l.length : Int) - (((q3 : Ps).p : Nat) : Int) != 0) = false := by simp; omega
   have HD2 := Zh (show decQ 5 l = if c ≠ 0 then (rqZ, c) else ((⟨5, bE, v1, v2, bE, va3, vb3, [], 0, 0, 0⟩ : Rq), 0) by rw [HDR.out, if_neg (by simp [he, hp])]); obtain ⟨s0, s1, s2, s3, s4, s5, s6, s7, s8, s9, s10⟩ := cs11 HK.out.bx
   go_wp2_with fail
   refine (HC.out _ _ _ _ HK.out.js).mono ?_; rintro _ y21 ⟨rfl, hb⟩; have HJ := Zh (HK.out.keep hb); clear hb; obtain ⟨rc0, rf0, rc1, rf1, rc2, rf2, rc3, rf3, rc4, rf4, rc5, rf5, rc6, rf6, rc7, rf7, rc8, rf8, rc9, rf9, rc10, rf10⟩ := cz11 HJ.out.rb; obtain ⟨t0, t1, t2, t3, t4, t5, t6, t7, t8, t9, t10⟩ := cs11 HJ.out.bx
   by_cases hz : c = 0
   ·
    have H0 := Zh (show decQ 5 l = ((⟨5, bE, v1, v2, bE, va3, vb3, [], 0, 0, 0⟩ : Rq), 0) by rw [HD2.out, if_neg (by simpa using hz)]); have hz2 : (c != 0) = false := by simpa using hz
    go_wp2
    refine rdec_out rfl (g := w.heap.size) rfl rfl (put11 HJ.out.rb (.int .i64 5) (.string ⟨#[]⟩) (.string v1) (.string v2) (.string ⟨#[]⟩) (.int .i64 va3) (.int .i64 vb3) (.slice none 0 0) (.int .i64 0) (.int .i64 0) (.int .i64 0)) ?_; rw [H0.out]
    exact ⟨_, _, _, rfl, HJ.out.js.blk (Nat.le_of_eq (size11 ..).symm) (fun h => absurd h (by simp)), fun h => absurd h (by simp), bel11 HJ.out.bel (Nat.le_refl _) (.int .i64 5) (.string ⟨#[]⟩) (.string v1) (.string v2) (.string ⟨#[]⟩) (.int .i64 va3) (.int .i64 vb3) (.slice none 0 0) (.int .i64 0) (.int .i64 0) (.int .i64 0)⟩
   ·
    have H0 := Zh (show decQ 5 l = (rqZ, c) by rw [HD2.out, if_pos hz]); have hz2 : (c != 0) = true := by simpa using hz
    go_wp2
    exact rdec_out rfl (g := w.heap.size) rfl rfl (put11 HJ.out.rb _ _ _ _ _ _ _ _ _ _ _) (decQ_none H0.out (bel11 HJ.out.bel (Nat.le_refl _) _ _ _ _ _ _ _ _ _ _ _))
  ·
   have hpB : ((l.length : Int) - (((q3 : Ps).p : Nat) : Int) != 0) = true := by simp; omega
   have H0 := Zh (show decQ 5 l = (rqZ, 1) by rw [HDR.out, if_pos (by simp [hp])]); obtain ⟨rc0, rf0, rc1, rf1, rc2, rf2, rc3, rf3, rc4, rf4, rc5, rf5, rc6, rf6, rc7, rf7, rc8, rf8, rc9, rf9, rc10, rf10⟩ := cz11 HK.out.rb
   go_wp2
   exact rdec_out rfl (g := w.heap.size) rfl rfl (put11 HK.out.rb _ _ _ _ _ _ _ _ _ _ _) (decQ_none H0.out (bel11 HK.out.bel (Nat.le_refl _) _ _ _ _ _ _ _ _ _ _ _))
 ·
  have heB : ((q3 : Ps).e != 0) = true := by simp [he]
  have H0 := Zh (show decQ 5 l = (rqZ, 1) by rw [HDR.out, if_pos (by simp [he])]); obtain ⟨rc0, rf0, rc1, rf1, rc2, rf2, rc3, rf3, rc4, rf4, rc5, rf5, rc6, rf6, rc7, rf7, rc8, rf8, rc9, rf9, rc10, rf10⟩ := cz11 HD3.out.rb
  go_wp2
  exact rdec_out rfl (g := w.heap.size) rfl rfl (put11 HD3.out.rb _ _ _ _ _ _ _ _ _ _ _) (decQ_none H0.out (bel11 HD3.out.bel (Nat.le_refl _) _ _ _ _ _ _ _ _ _ _ _))
end
end Go.Proofs.YtphijnkiiokieaaGreatDoor
