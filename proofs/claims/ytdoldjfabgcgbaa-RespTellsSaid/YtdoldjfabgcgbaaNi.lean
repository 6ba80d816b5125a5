/- The reference's reader: numbers, texts. -/
import Derived.Test.YtdoldjfabgcgbaaNh
namespace Go.Proofs.Ytdoldjfabgcgbaa
open Go.RowKit
open Go.Lib hiding intOf
set_option linter.unusedVariables false
set_option linter.unusedSimpArgs false
set_option maxRecDepth 100000
/-- One block may have turned. -/
def Tg (w w' : World) (g : Nat) : Prop := w.grownBy w' (some g)
section
variable {w w' w2 : World} {g : Nat} {A : Option Addr} {cap b off : Nat} {l : List UInt8} {p : Nat} {e : Int} {q : Ps}
theorem Tg.refl (w : World) (g : Nat) : Tg w w g := ⟨rfl, rfl, rfl, Nat.le_refl _, fun _ _ _ => rfl⟩
theorem Tg.of (h : Below w.heap.size w w') : Tg w w' g := ⟨h.os, h.tape, h.output, h.size, fun j hj _ => h.block j hj⟩
theorem Tg.trans (h : Tg w w' g) (k : Tg w' w2 g) : Tg w w2 g := ⟨k.os.trans h.os, k.tape.trans h.tape, k.output.trans h.output, Nat.le_trans h.size k.size, fun j hj hn => (k.block j (Nat.lt_of_lt_of_le hj h.size) hn).trans (h.block j hj hn)⟩
theorem Tg.set (h : Tg w w' g) (i : Nat) (u : Value) : Tg w (w'.setCell ⟨g, i, none⟩ u) g := ⟨h.os, h.tape, h.output, by simpa [World.setCell] using h.size, fun j hj hn => (Below.heap_setCell w' ⟨g, i, none⟩ u j (fun e => hn (by rw [e]))).trans (h.block j hj hn)⟩
theorem Tg.below {B : Nat} (h : Tg w w' g) (hg : B ≤ g) (hB : B ≤ w.heap.size) : Below B w w' := ⟨h.os, h.tape, h.output, h.size, fun j hj => h.block j (by omega) (by simp; omega)⟩
theorem Rr.setE (h : Rr w g A cap b off l p e) (c : Int) : Rr (w.setCell ⟨g, 2, none⟩ (.int .i64 c)) g A cap b off l p c :=
  ⟨h.bx.set_ 2 _, ⟨h.byt.hlen, h.byt.le, h.byt.hmax, fun hl => ⟨(h.byt.addr hl).1, by simpa [World.setCell] using (h.byt.addr hl).2⟩, fun j u hu => by
    have hl : 0 < l.length := by have := (List.getElem?_eq_some_iff.1 hu).1; omega
    exact (World.cell?_of_block (a := ⟨b, off + j, none⟩) (Below.heap_setCell _ _ _ _ (h.ne hl))).trans (h.byt.cell j u hu)⟩, h.ne, h.hp⟩
theorem Rr.setP (h : Rr w g A cap b off l p e) {p' : Nat} (hp : p' ≤ l.length) : Rr (w.setCell ⟨g, 1, none⟩ (.int .i64 (p' : Int))) g A cap b off l p' e :=
  ⟨h.bx.set_ 1 _, ⟨h.byt.hlen, h.byt.le, h.byt.hmax, fun hl => ⟨(h.byt.addr hl).1, by simpa [World.setCell] using (h.byt.addr hl).2⟩, fun j u hu => by
    have hl : 0 < l.length := by have := (List.getElem?_eq_some_iff.1 hu).1; omega
    exact (World.cell?_of_block (a := ⟨b, off + j, none⟩) (Below.heap_setCell _ _ _ _ (h.ne hl))).trans (h.byt.cell j u hu)⟩, h.ne, hp⟩
theorem xnum_any (h : Rr w g A cap b off l q.p q.e) (hl : l.length ≤ 1000000) : Calls Try.prog 27 #[.pointer (some ⟨g, 0, none⟩)] w fun r w' => r = .returned (.int .i64 (numP l q).1) ∧ Rr w' g A cap b off l (numP l q).2.p (numP l q).2.e ∧ Tg w w' g := by
  have c2 := h.c2
  obtain ⟨P, E⟩ := q
  unfold numP
  simp only at h c2 ⊢
  by_cases he : E = 0
  · subst he
    rw [if_neg (by simp)]
    have HL := Lib.hid (look_any h hl)
    unfold lk at HL
    have HRI := Lib.hid (fun hr => rt_in (l := l) (p := P) h.hp hr)
    obtain ⟨⟨n, k, c⟩, hr⟩ : ∃ z, rt (l.drop P) = z := ⟨_, rfl⟩
    rw [hr] at HL HRI ⊢
    simp only at HL HRI ⊢
    have HR := Lib.hid h
    clear h hr
    by_cases hc : c = 0
    · subst hc
      rw [if_pos rfl]
      rw [if_pos rfl] at HL
      have HP := Lib.hid (HRI.out rfl)
      go_enter Try.func27, Try.ntmps27
      go_wp2_with fail
      refine HL.out.mono ?_
      rintro _ w1 ⟨rfl, hb⟩
      have H1 := Lib.hid hb
      have HR1 := Lib.hid (HR.out.keep hb)
      have d1 := HR1.out.c1
      have f1 := HR1.out.bx.frozen 1
      clear hb
      go_wp2
      go_ret
      exact ⟨rfl, HR1.out.setP HP.out, (Tg.of H1.out).set 1 _⟩
    · rw [if_neg hc]
      rw [if_neg hc] at HL
      have hb : (c != 0) = true := by simpa using hc
      clear hc
      go_enter Try.func27, Try.ntmps27
      go_wp2_with fail
      refine HL.out.mono ?_
      rintro _ w1 ⟨rfl, hb⟩
      have H1 := Lib.hid hb
      have HR1 := Lib.hid (HR.out.keep hb)
      have d2 := HR1.out.c2
      have f2 := HR1.out.bx.frozen 2
      clear hb
      go_wp2
      go_ret
      exact ⟨rfl, HR1.out.setE c, (Tg.of H1.out).set 2 _⟩
  · rw [if_pos he]
    have HR := Lib.hid h
    have hb : (E != 0) = true := by simpa using he
    clear h he
    go_enter Try.func27, Try.ntmps27
    go_wp2
    go_ret
    exact ⟨rfl, HR.out, Tg.refl _ _⟩
theorem left_r (h : Rr w g A cap b off l p e) (hl : l.length ≤ 1000000) : Calls Try.prog 30 #[.pointer (some ⟨g, 0, none⟩)] w fun r w' => r = .returned (.int .i64 ((l.length : Int) - (p : Int))) ∧ Below w.heap.size w w' := by
  have c0 := h.c0
  have c1 := h.c1
  have hp := h.hp
  have i1 : IntKind.i64.wrap ((l.length : Int) - (p : Int)) = (l.length : Int) - (p : Int) := IntWalk.i64_in _ (by omega)
  have H0 := Lib.hid (Below.refl w.heap.size w)
  clear h
  go_enter Try.func30, Try.ntmps30
  go_wp2
  go_quiet (fail)
  go_wp2
  go_ret
  exact ⟨rfl, by repeat (first | exact H0.out | refine below_drewN ?_ _)⟩
end
end Go.Proofs.Ytdoldjfabgcgbaa
