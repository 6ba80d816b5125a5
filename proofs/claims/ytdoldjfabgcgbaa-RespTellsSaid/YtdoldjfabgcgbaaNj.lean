/- The reference's reader: texts, small numbers, marks. -/
import Derived.Test.YtdoldjfabgcgbaaNi
import Derived.Deep.RegionHeld3
namespace Go.Proofs.Ytdoldjfabgcgbaa
open Go.RowKit
open Go.Lib hiding intOf
set_option linter.unusedVariables false
set_option linter.unusedSimpArgs false
set_option maxRecDepth 100000
section
variable {w w' w2 : World} {g : Nat} {A : Option Addr} {cap b off : Nat} {l : List UInt8} {p : Nat} {e : Int} {q : Ps}
theorem Byt.sub {k n : Nat} (h : Byt w A l.length cap b off l) (hk : k + n ≤ l.length) : Byt w (some ⟨b, off + k, none⟩) n (cap - k) b (off + k) ((l.drop k).take n) :=
  ⟨by rw [List.length_take, List.length_drop]; omega, by have := h.le; omega, Nat.le_trans (Nat.sub_le _ _) h.hmax, fun hn => ⟨rfl, (h.addr (by omega)).2⟩, fun j u hu => by
    rw [List.getElem?_take] at hu
    split at hu
    · rw [List.getElem?_drop] at hu
      have := h.cell (k + j) u hu
      rwa [← Nat.add_assoc] at this
    · cases hu⟩
theorem nil_any2 (W : World) (a : Addr) : Byt W (some a) 0 0 0 0 [] := ⟨rfl, Nat.le_refl _, Nat.zero_le _, fun h => absurd h (by simp), fun j u hu => by simp at hu⟩
theorem xtext_any (h : Rr w g A cap b off l q.p q.e) (hl : l.length ≤ 1000000) (most : Nat) (hm : most ≤ 1000000) : Calls Try.prog 28 #[.pointer (some ⟨g, 0, none⟩), .int .i64 (most : Int)] w fun r w' => r = .returned (.string (textP most l q).1) ∧ Rr w' g A cap b off l (textP most l q).2.p (textP most l q).2.e ∧ Tg w w' g := by
  have c2 := h.c2
  obtain ⟨P, E⟩ := q
  unfold textP
  simp only at h c2 ⊢
  by_cases he : E = 0
  · subst he
    rw [if_neg (by simp)]
    have HL := Lib.hid (look_any h hl)
    unfold lk at HL
    have HRI := Lib.hid (fun hr => rt_in (l := l) (p := P) h.hp hr)
    have HRO := Lib.hid (fun (hr : (rt (l.drop P)).2.2 = 0) => rt_ok (l := l.drop P) (n := (rt (l.drop P)).1) (k := (rt (l.drop P)).2.1) (by rw [← hr]))
    obtain ⟨⟨n, k, c⟩, hr⟩ : ∃ z, rt (l.drop P) = z := ⟨_, rfl⟩
    rw [hr] at HL HRI HRO ⊢
    simp only at HL HRI HRO ⊢
    have HR := Lib.hid h
    clear h hr
    by_cases hc : c = 0
    · subst hc
      rw [if_neg (by simp)]
      rw [if_pos rfl] at HL
      have HP := HRI.out rfl
      have HQ := (HRO.out rfl).2
      clear HRI HRO
      by_cases h1 : l.length < P + k + n
      · rw [if_pos h1]
        have h1I : (n : Int) > (l.length : Int) - ((P + k : Nat) : Int) := by omega
        have i1 : wrap64 ((l.length : Int) - ((P + k : Nat) : Int)) = (l.length : Int) - ((P + k : Nat) : Int) := IntWalk.wrap64_in _ (by omega)
        go_enter Try.func28, Try.ntmps28
        go_wp2_with fail
        refine HL.out.mono ?_
        rintro _ w1 ⟨rfl, hb⟩
        have H1 := Lib.hid hb
        have HR1 := Lib.hid (HR.out.keep hb)
        have d0 := HR1.out.c0
        have d2 := HR1.out.c2
        have f2 := HR1.out.bx.frozen 2
        clear hb
        go_wp2
        go_ret
        exact ⟨rfl, HR1.out.setE 14, (Tg.of H1.out).set 2 _⟩
      · rw [if_neg h1]
        have h1I : ¬ (n : Int) > (l.length : Int) - ((P + k : Nat) : Int) := by omega
        have i1 : wrap64 ((l.length : Int) - ((P + k : Nat) : Int)) = (l.length : Int) - ((P + k : Nat) : Int) := IntWalk.wrap64_in _ (by omega)
        by_cases h2 : most < n
        · rw [if_pos h2]
          have h2I : (n : Int) > (most : Int) := by omega
          go_enter Try.func28, Try.ntmps28
          go_wp2_with fail
          refine HL.out.mono ?_
          rintro _ w1 ⟨rfl, hb⟩
          have H1 := Lib.hid hb
          have HR1 := Lib.hid (HR.out.keep hb)
          have d0 := HR1.out.c0
          have d2 := HR1.out.c2
          have f2 := HR1.out.bx.frozen 2
          clear hb
          go_wp2
          go_ret
          exact ⟨rfl, HR1.out.setE 2, (Tg.of H1.out).set 2 _⟩
        · rw [if_neg h2]
          have h2I : ¬ (n : Int) > (most : Int) := by omega
          have i2 : wrap64 (((P + k : Nat) : Int) + (n : Int)) = ((P + k + n : Nat) : Int) := by rw [IntWalk.wrap64_in _ (by omega)]; omega
          go_enter Try.func28, Try.ntmps28
          go_wp2_with fail
          refine HL.out.mono ?_
          rintro _ w1 ⟨rfl, hb⟩
          have H1 := Lib.hid hb
          have HR1 := Lib.hid (HR.out.keep hb)
          have d0 := HR1.out.c0
          have d1 := HR1.out.c1
          have f1 := HR1.out.bx.frozen 1
          clear hb
          obtain ⟨rfl, hbl⟩ := HR1.out.byt.addr (by omega)
          have hcap := HR1.out.byt.le
          have ev : ((P + k + n : Nat) : Int) = (P : Int) + (k : Int) + (n : Int) := by omega
          have HRS := HR1.out.setP (p' := P + k + n) (by omega)
          rw [ev] at HRS
          have hb1 : Blk (w1.setCell ⟨g, 1, none⟩ (.int .i64 ((P : Int) + (k : Int) + (n : Int)))) g 53 #[.slice (some ⟨b, off, none⟩) l.length cap, .int .i64 ((P : Int) + (k : Int) + (n : Int)), .int .i64 0] := by have := HRS.bx; rwa [ev] at this
          have g0 : (w1.setCell ⟨g, 1, none⟩ (.int .i64 ((P : Int) + (k : Int) + (n : Int)))).cell? ⟨g, 0, none⟩ = some (.slice (some ⟨b, off, none⟩) l.length cap) := hb1.cell 0
          have g1 : (w1.setCell ⟨g, 1, none⟩ (.int .i64 ((P : Int) + (k : Int) + (n : Int)))).cell? ⟨g, 1, none⟩ = some (.int .i64 ((P : Int) + (k : Int) + (n : Int))) := hb1.cell 1
          have kc0 := byt_text ((HRS.byt.below (Below.refl _ _).drew).sub (k := P + k) (n := n) (by omega))
          have kz := byt_text (nil_any2 (w1.setCell ⟨g, 1, none⟩ (.int .i64 ((P : Int) + (k : Int) + (n : Int)))).drew ⟨b, off, none⟩)
          have v0 : ((w1.setCell ⟨g, 1, none⟩ (.int .i64 ((P : Int) + (k : Int) + (n : Int)))).drew).cell? ⟨g, 0, none⟩ = some (.slice (some ⟨b, off, none⟩) l.length cap) := hb1.drew.cell 0
          have v1 : ((w1.setCell ⟨g, 1, none⟩ (.int .i64 ((P : Int) + (k : Int) + (n : Int)))).drew).cell? ⟨g, 1, none⟩ = some (.int .i64 ((P : Int) + (k : Int) + (n : Int))) := hb1.drew.cell 1
          have HZ := Lib.hid HRS
          have HT := Lib.hid ((Tg.of H1.out : Tg w w1 g).set 1 (.int .i64 ((P : Int) + (k : Int) + (n : Int))))
          have m1 : (0 : Int) ≤ (P : Int) + (k : Int) := by omega
          have m2 : (P : Int) + (k : Int) ≤ (P : Int) + (k : Int) + (n : Int) := by omega
          have m3 : (P : Int) + (k : Int) + (n : Int) ≤ (cap : Int) := by omega
          have m4 : ((P : Int) + (k : Int)).toNat = P + k := by omega
          have m5 : ((P : Int) + (k : Int) + (n : Int) - ((P : Int) + (k : Int))).toNat = n := by omega
          have m6 : ((P : Int) + (k : Int) + (n : Int)).toNat = P + k + n := by omega
          clear HRS hb1 ev
          have HE : ∀ (AD : Option Addr), AD = (if cap = P + k then some ⟨b, off, none⟩ else some ⟨b, off + (P + k), none⟩) → (convert 26 9 (.slice AD n (cap - (P + k)))).run Try.prog (w1.setCell ⟨g, 1, none⟩ (.int .i64 ((P : Int) + (k : Int) + (n : Int)))).drew = .ok (.string ⟨((l.drop (P + k)).take n).toArray⟩) (w1.setCell ⟨g, 1, none⟩ (.int .i64 ((P : Int) + (k : Int) + (n : Int)))).drew := by
            rintro _ rfl
            by_cases hcp : cap = P + k
            · rw [if_pos hcp]
              obtain rfl : n = 0 := by omega
              rw [show cap - (P + k) = 0 by omega, List.take_zero]
              exact kz
            · rw [if_neg hcp]
              exact kc0
          have kc := HE _ rfl
          clear HE kz kc0
          go_wp2
          obtain ⟨AD, hAD⟩ : ∃ AD, (if cap = P + k then some (⟨b, off, none⟩ : Addr) else some ⟨b, off + (P + k), none⟩) = AD := ⟨_, rfl⟩
          rw [hAD] at kc
          go_region_held3 (fun W => W.cell? ⟨g, 0, none⟩ = some (.slice (some ⟨b, off, none⟩) l.length cap) ∧ W.cell? ⟨g, 1, none⟩ = some (.int .i64 ((P : Int) + (k : Int) + (n : Int))) ∧ (convert 26 9 (.slice AD n (cap - (P + k)))).run Try.prog W = .ok (.string ⟨((l.drop (P + k)).take n).toArray⟩) W) (refine ⟨?_, ?_, ?_⟩ <;> assumption) (fail)
          go_wp2
          go_ret
          exact ⟨rfl, HZ.out.keep (by repeat (first | exact Below.refl _ _ | refine below_drewN ?_ _)), HT.out.trans (Tg.of (by repeat (first | exact Below.refl _ _ | refine below_drewN ?_ _)))⟩
    · rw [if_pos hc]
      rw [if_neg hc] at HL
      have hb : (c != 0) = true := by simpa using hc
      clear hc
      go_enter Try.func28, Try.ntmps28
      go_wp2_with fail
      refine HL.out.mono ?_
      rintro _ w1 ⟨rfl, hb⟩
      have H1 := Lib.hid hb
      have HR1 := Lib.hid (HR.out.keep hb)
      have d2 := HR1.out.c2
      have f2 := HR1.out.bx.frozen 2
      clear hb
      go_wp2
      go_ret
      exact ⟨rfl, HR1.out.setE c, (Tg.of H1.out).set 2 _⟩
  · rw [if_pos he]
    have HR := Lib.hid h
    have hb : (E != 0) = true := by simpa using he
    clear h he
    go_enter Try.func28, Try.ntmps28
    go_wp2
    go_ret
    exact ⟨rfl, HR.out, Tg.refl _ _⟩
theorem xsmall_any (h : Rr w g A cap b off l q.p q.e) (hl : l.length ≤ 1000000) : Calls Try.prog 26 #[.pointer (some ⟨g, 0, none⟩)] w fun r w' => r = .returned (.int .i64 (if 2147483647 < (numP l q).1 then 0 else (numP l q).1)) ∧ Rr w' g A cap b off l (numP l q).2.p (if 2147483647 < (numP l q).1 then 1 else (numP l q).2.e) ∧ Tg w w' g := by
  have HN := Lib.hid (xnum_any h hl)
  have hn0 := numP_nat l q
  have hn1 := numP_lt l q
  obtain ⟨⟨n, q2⟩, hr⟩ : ∃ z, numP l q = z := ⟨_, rfl⟩
  rw [hr] at HN hn0 hn1 ⊢
  simp only at HN hn0 hn1 ⊢
  clear h hr
  by_cases hn : 2147483647 < n
  · rw [if_pos hn, if_pos hn]
    go_enter Try.func26, Try.ntmps26
    go_wp2_with fail
    refine HN.out.mono ?_
    rintro _ w1 ⟨rfl, h1, h2⟩
    have HR1 := Lib.hid h1
    have H1 := Lib.hid h2
    have d2 := HR1.out.c2
    have f2 := HR1.out.bx.frozen 2
    clear h1 h2
    go_wp2
    go_ret
    exact ⟨rfl, HR1.out.setE 1, H1.out.set 2 _⟩
  · rw [if_neg hn, if_neg hn]
    have i1 : wrap64 n = n := IntWalk.wrap64_in _ (by omega)
    go_enter Try.func26, Try.ntmps26
    go_wp2_with fail
    refine HN.out.mono ?_
    rintro _ w1 ⟨rfl, h1, h2⟩
    have HR1 := Lib.hid h1
    have H1 := Lib.hid h2
    clear h1 h2
    go_wp2
    go_ret
    exact ⟨rfl, HR1.out, H1.out⟩
/-- What mark makes of a number and an error. -/
def mkE (n e : Int) : Int := if e = 0 ∧ 1 < n then 1 else e
theorem xmark_any (h : Rr w g A cap b off l q.p q.e) (hl : l.length ≤ 1000000) : Calls Try.prog 29 #[.pointer (some ⟨g, 0, none⟩)] w fun r w' => r = .returned (.bool ((numP l q).1 == 1)) ∧ Rr w' g A cap b off l (numP l q).2.p (mkE (numP l q).1 (numP l q).2.e) ∧ Tg w w' g := by
  have HN := Lib.hid (xnum_any h hl)
  unfold mkE
  obtain ⟨⟨n, p2, e2⟩, hr⟩ : ∃ z, numP l q = z := ⟨_, rfl⟩
  rw [hr] at HN ⊢
  simp only at HN ⊢
  obtain ⟨bq, hbq⟩ : ∃ b, (n == 1) = b := ⟨_, rfl⟩
  rw [hbq]
  clear h hr
  by_cases he : e2 = 0
  · subst he
    by_cases hn : 1 < n
    · rw [if_pos ⟨rfl, hn⟩]
      go_enter Try.func29, Try.ntmps29
      go_wp2_with fail
      refine HN.out.mono ?_
      rintro _ w1 ⟨rfl, h1, h2⟩
      have HR1 := Lib.hid h1
      have H1 := Lib.hid h2
      have d2 := HR1.out.c2
      have f2 := HR1.out.bx.frozen 2
      clear h1 h2
      go_wp2
      go_ret
      exact ⟨rfl, HR1.out.setE 1, H1.out.set 2 _⟩
    · rw [if_neg (fun h => hn h.2)]
      go_enter Try.func29, Try.ntmps29
      go_wp2_with fail
      refine HN.out.mono ?_
      rintro _ w1 ⟨rfl, h1, h2⟩
      have HR1 := Lib.hid h1
      have H1 := Lib.hid h2
      have d2 := HR1.out.c2
      clear h1 h2
      go_wp2
      go_ret
      exact ⟨rfl, HR1.out, H1.out⟩
  · rw [if_neg (fun h => he h.1)]
    have hb : (e2 == 0) = false := by simpa using he
    clear he
    go_enter Try.func29, Try.ntmps29
    go_wp2_with fail
    refine HN.out.mono ?_
    rintro _ w1 ⟨rfl, h1, h2⟩
    have HR1 := Lib.hid h1
    have H1 := Lib.hid h2
    have d2 := HR1.out.c2
    clear h1 h2
    go_wp2
    go_ret
    exact ⟨rfl, HR1.out, H1.out⟩
end
end Go.Proofs.Ytdoldjfabgcgbaa
