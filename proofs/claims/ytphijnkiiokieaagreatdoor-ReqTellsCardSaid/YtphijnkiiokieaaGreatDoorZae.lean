/- Texts of one proof, joined. -/
import Derived.Test.YtphijnkiiokieaaGreatDoorZad
set_option linter.unusedVariables false
set_option linter.unusedSimpArgs false
set_option maxRecDepth 100000
set_option maxHeartbeats 80000000
namespace Go.Proofs.YtphijnkiiokieaaGreatDoor
open Go.RowKit
structure Ps where
 p : Nat
 e : Int
def numP (l : List UInt8) (q : Ps) : Int × Ps := if q.e ≠ 0 then (0, q) else if (rt (l.drop q.p)).2.2 = 0 then (((rt (l.drop q.p)).1 : Int), ⟨q.p + (rt (l.drop q.p)).2.1, 0⟩) else (0, ⟨q.p, (rt (l.drop q.p)).2.2⟩)
def textP (most : Nat) (l : List UInt8) (q : Ps) : ByteArray × Ps :=
 if q.e ≠ 0 then (⟨#[]⟩, q) else if (rt (l.drop q.p)).2.2 ≠ 0 then (⟨#[]⟩, ⟨q.p, (rt (l.drop q.p)).2.2⟩)
 else if l.length < q.p + (rt (l.drop q.p)).2.1 + (rt (l.drop q.p)).1 then (⟨#[]⟩, ⟨q.p, 14⟩) else if most < (rt (l.drop q.p)).1 then (⟨#[]⟩, ⟨q.p, 2⟩)
 else (⟨((l.drop (q.p + (rt (l.drop q.p)).2.1)).take (rt (l.drop q.p)).1).toArray⟩, ⟨q.p + (rt (l.drop q.p)).2.1 + (rt (l.drop q.p)).1, 0⟩)
theorem rt_in {l : List UInt8} {p : Nat} (hp : p ≤ l.length) (h : (rt (l.drop p)).2.2 = 0) : p + (rt (l.drop p)).2.1 ≤ l.length := by
 have := (rt_ok (l := l.drop p) (n := (rt (l.drop p)).1) (k := (rt (l.drop p)).2.1) (by rw [← h])).2.2.1; rw [List.length_drop] at this
 omega
theorem numP_in {l : List UInt8} {q : Ps} (hp : q.p ≤ l.length) : (numP l q).2.p ≤ l.length := by
 unfold numP
 split
 ·
  exact hp
 ·
  split
  ·
   rename_i h; exact rt_in hp h
  ·
   exact hp
theorem textP_in {most : Nat} {l : List UInt8} {q : Ps} (hp : q.p ≤ l.length) : (textP most l q).2.p ≤ l.length := by
 unfold textP
 split
 ·
  exact hp
 ·
  split
  ·
   exact hp
  ·
   split
   ·
    exact hp
   ·
    split
    ·
     exact hp
    ·
     show _ + _ + _ ≤ _; omega
section
variable {w : World} {g : Nat} {s : ByteArray} {q : Ps}
theorem sz_list (s : ByteArray) : s.data.toList.length = s.size := by rw [Array.length_toList]; rfl
theorem numP_any (h : Rd w g s q.p q.e) (hs : s.size ≤ 1000000) (hp : q.p ≤ s.size) : Calls Tryz.prog 34 #[.pointer (some ⟨g, 0, none⟩)] w fun r w' => r = .returned (.int .i64 (numP s.data.toList q).1) ∧ Rd w' g s (numP s.data.toList q).2.p (numP s.data.toList q).2.e ∧ w.grownBy w' (some g) := by
 unfold numP
 by_cases he : q.e = 0
 ·
  rw [if_neg (by omega)]; rw [he] at h
  by_cases hr : (rt (s.data.toList.drop q.p)).2.2 = 0
  ·
   rw [if_pos hr]; refine (wnum_ok h hs hp (n := (rt (s.data.toList.drop q.p)).1) (k := (rt (s.data.toList.drop q.p)).2.1) (by rw [← hr])).mono ?_; rintro r w' ⟨h1, h2, h3⟩
   exact ⟨h1, by simpa using h2, h3⟩
  ·
   rw [if_neg hr]
   exact wnum_bad h hs hp rfl hr
 ·
  rw [if_pos he]
  exact wnum_err h he
theorem textP_any (h : Rd w g s q.p q.e) (hs : s.size ≤ 1000000) (hp : q.p ≤ s.size) (most : Nat) : Calls Tryz.prog 73 #[.pointer (some ⟨g, 0, none⟩), .int .i64 (most : Int)] w fun r w' => r = .returned (.string (textP most s.data.toList q).1) ∧ Rd w' g s (textP most s.data.toList q).2.p (textP most s.data.toList q).2.e ∧ w.grownBy w' (some g) := by
 unfold textP
 by_cases he : q.e = 0
 ·
  rw [if_neg (by omega)]; rw [he] at h
  by_cases hr : (rt (s.data.toList.drop q.p)).2.2 = 0
  ·
   rw [if_neg (by omega)]; have hk := rt_in (l := s.data.toList) (p := q.p) (by rw [sz_list]; exact hp) hr; rw [sz_list] at hk ⊢; have hrt : rt (s.data.toList.drop q.p) = ((rt (s.data.toList.drop q.p)).1, (rt (s.data.toList.drop q.p)).2.1, 0) := by rw [← hr]
   by_cases h1 : s.size < q.p + (rt (s.data.toList.drop q.p)).2.1 + (rt (s.data.toList.drop q.p)).1
   ·
    rw [if_pos h1]
    exact wtext_over (P := q.p) (e := 14) h hs hp hrt hk (by rw [if_pos (by omega)]) (by decide)
   ·
    rw [if_neg h1]
    by_cases h2 : most < (rt (s.data.toList.drop q.p)).1
    ·
     rw [if_pos h2]
     exact wtext_over (P := q.p) (e := 2) h hs hp hrt hk (by rw [if_neg (by omega), if_pos (by omega)]) (by decide)
    ·
     rw [if_neg h2]; refine (wtext_ok h hs hp hrt (by omega) (by omega)).mono ?_; rintro r w' ⟨g1, g2, g3⟩
     exact ⟨g1, by simpa using g2, g3⟩
  ·
   rw [if_pos hr]
   exact wtext_bad h hs hp rfl hr
 ·
  rw [if_pos he]
  exact wtext_err h he _
end
structure Wi (w : World) (G g : Nat) (s : ByteArray) (q : Ps) (x : Bool) : Prop where
 bx : Blk w G 62 #[.pointer (some ⟨g, 0, none⟩), .bool x]
 rd : Rd w g s q.p q.e
 ne : G ≠ g
 hp : q.p ≤ s.size
structure Tw2 (w w' : World) (G g : Nat) : Prop where
 os : w'.os = w.os
 tape : w'.tape = w.tape
 output : w'.output = w.output
 size : w.heap.size ≤ w'.heap.size
 block : ∀ j, j < w.heap.size → j ≠ G → j ≠ g → w'.heap[j]? = w.heap[j]?
theorem Tw2.of {w w' : World} {G g : Nat} (h : w.grownBy w' (some g)) : Tw2 w w' G g := ⟨h.os, h.tape, h.output, h.size, fun j h1 _ h3 => h.block j h1 (by simpa using h3)⟩
theorem Tw2.refl (w : World) (G g : Nat) : Tw2 w w G g := ⟨rfl, rfl, rfl, Nat.le_refl _, fun _ _ _ _ => rfl⟩
theorem Tw2.setG {w w' : World} {G g : Nat} (h : Tw2 w w' G g) (i : Nat) (u : Value) : Tw2 w (w'.setCell ⟨G, i, none⟩ u) G g :=
 ⟨h.os, h.tape, h.output, by simpa [World.setCell] using h.size, fun j h1 h2 h3 => (Below.heap_setCell w' ⟨G, i, none⟩ u j h2).trans (h.block j h1 h2 h3)⟩
theorem Tw2.trans {a b c : World} {G g : Nat} (h : Tw2 a b G g) (k : Tw2 b c G g) : Tw2 a c G g :=
 ⟨k.os.trans h.os, k.tape.trans h.tape, k.output.trans h.output, Nat.le_trans h.size k.size, fun j h1 h2 h3 => (k.block j (Nat.lt_of_lt_of_le h1 h.size) h2 h3).trans (h.block j h1 h2 h3)⟩
theorem Tw2.below {a b : World} {G g B : Nat} (h : Tw2 a b G g) (h1 : B ≤ G) (h2 : B ≤ g) (h3 : B ≤ a.heap.size) : Below B a b :=
 ⟨h.os, h.tape, h.output, h.size, fun j hj => h.block j (by omega) (by omega) (by omega)⟩
def belowP (most : Nat) (l : List UInt8) (q : Ps) (x : Bool) : Int × Ps × Bool := if (most : Int) < (numP l q).1 then (0, (numP l q).2, true) else ((numP l q).1, (numP l q).2, x)
section
variable {w : World} {G g : Nat} {s : ByteArray} {q : Ps} {x : Bool}
theorem below_any (h : Wi w G g s q x) (hs : s.size ≤ 1000000) (most : Nat) : Calls Tryz.prog 56 #[.pointer (some ⟨G, 0, none⟩), .int .i64 (most : Int)] w fun r w' => r = .returned (.int .i64 (belowP most s.data.toList q x).1) ∧ Wi w' G g s (belowP most s.data.toList q x).2.1 (belowP most s.data.toList q x).2.2 ∧ Tw2 w w' G g := by
 have c0 := h.bx.cell 0; have HN := Zh (numP_any h.rd hs h.hp); have HIN := Zh (show (numP s.data.toList q).2.p ≤ s.size by have := numP_in (l := s.data.toList) (q := q) (by rw [sz_list]; exact h.hp); rwa [sz_list] at this); have HB := Zh h; obtain ⟨r, hr⟩ : ∃ r, belowP most s.data.toList q x = r := ⟨_, rfl⟩; have HR := Zh (show (if (most : Int) < (numP s.data.toList q).1 then (0, (numP s.data.toList q).2, true) else ((numP s.data.toList q).1, (numP s.data.toList q).2, x)) = r from hr); rw [hr]; obtain ⟨⟨n, q2⟩, hn⟩ : ∃ y, numP s.data.toList q = y := ⟨_, rfl⟩; rw [hn] at HN HR HIN; simp only at HN HR HIN; clear h hr hn
 go_enter Tryz.func56, Tryz.ntmps56
 go_wp2_with fail
 refine HN.out.mono ?_; rintro _ w2 ⟨rfl, h1, h2⟩; have HB2 := Zh (show Blk w2 G 62 #[.pointer (some ⟨g, 0, none⟩), .bool x] from HB.out.bx.grown h2 (by simpa using HB.out.ne)); have HR2 := Zh h1; have HT := Zh (Tw2.of (G := G) h2); have d1 := HB2.out.cell 1; have f1 := HB2.out.frozen 1; clear h1 h2
 by_cases hm : (most : Int) < n
 ·
  have H0 := Zh (show r = (0, q2, true) by rw [← HR.out, if_pos hm])
  go_wp2
  go_ret
  rw [H0.out]
  exact ⟨rfl, ⟨HB2.out.set_ 1 (.bool true), HR2.out.far (p := ⟨G, 1, none⟩) (Ne.symm HB.out.ne) _, HB.out.ne, HIN.out⟩, HT.out.setG 1 _⟩
 ·
  have H0 := Zh (show r = (n, q2, x) by rw [← HR.out, if_neg hm])
  go_wp2
  go_ret
  rw [H0.out]
  exact ⟨rfl, ⟨HB2.out, HR2.out, HB.out.ne, HIN.out⟩, HT.out⟩
def markP (l : List UInt8) (q : Ps) (x : Bool) : Bool × Ps × Bool := ((belowP 1 l q x).1 == 1, (belowP 1 l q x).2)
theorem wmark_any (h : Wi w G g s q x) (hs : s.size ≤ 1000000) : Calls Tryz.prog 57 #[.pointer (some ⟨G, 0, none⟩)] w fun r w' => r = .returned (.bool (markP s.data.toList q x).1) ∧ Wi w' G g s (markP s.data.toList q x).2.1 (markP s.data.toList q x).2.2 ∧ Tw2 w w' G g := by
 have HN := Zh (below_any h hs 1)
 unfold markP
 obtain ⟨⟨n, q2, x2⟩, hn⟩ : ∃ y, belowP 1 s.data.toList q x = y := ⟨_, rfl⟩; rw [hn] at HN ⊢; simp only at HN ⊢; obtain ⟨bq, hbq⟩ : ∃ b, (n == 1) = b := ⟨_, rfl⟩; rw [hbq]; clear h hn
 go_enter Tryz.func57, Tryz.ntmps57
 go_wp2_with fail
 refine HN.out.mono ?_; rintro _ w2 ⟨rfl, h1, h2⟩; have H1 := Zh h1; have H2 := Zh h2; clear h1 h2
 go_wp2
 go_ret
 exact ⟨rfl, H1.out, H2.out⟩
theorem field_any (h : Wi w G g s q x) (hs : s.size ≤ 1000000) : Calls Tryz.prog 55 #[.pointer (some ⟨G, 0, none⟩)] w fun r w' => r = .returned (.string (textP 20000 s.data.toList q).1) ∧ Wi w' G g s (textP 20000 s.data.toList q).2 x ∧ Tw2 w w' G g := by
 have c0 := h.bx.cell 0; have HN := Zh (textP_any h.rd hs h.hp 20000); have HIN := Zh (show (textP 20000 s.data.toList q).2.p ≤ s.size by have := textP_in (most := 20000) (l := s.data.toList) (q := q) (by rw [sz_list]; exact h.hp); rwa [sz_list] at this); have HB := Zh h; obtain ⟨⟨t, q2⟩, hn⟩ : ∃ y, textP 20000 s.data.toList q = y := ⟨_, rfl⟩; rw [hn] at HN HIN ⊢; simp only at HN HIN ⊢; clear h hn
 go_enter Tryz.func55, Tryz.ntmps55
 go_wp2_with fail
 refine HN.out.mono ?_; rintro _ w2 ⟨rfl, h1, h2⟩; have H1 := Zh h1; have HB2 := Zh (show Blk w2 G 62 #[.pointer (some ⟨g, 0, none⟩), .bool x] from HB.out.bx.grown h2 (by simpa using HB.out.ne)); have HT := Zh (Tw2.of (G := G) h2); clear h1 h2
 go_wp2
 go_ret
 exact ⟨rfl, ⟨HB2.out, H1.out, HB.out.ne, HIN.out⟩, HT.out⟩
theorem wnum_any (h : Wi w G g s q x) (hs : s.size ≤ 1000000) : Calls Tryz.prog 34 #[.pointer (some ⟨g, 0, none⟩)] w fun r w' => r = .returned (.int .i64 (numP s.data.toList q).1) ∧ Wi w' G g s (numP s.data.toList q).2 x ∧ Tw2 w w' G g := by
 refine (numP_any h.rd hs h.hp).mono ?_; rintro r w' ⟨h1, h2, h3⟩; have hin : (numP s.data.toList q).2.p ≤ s.size := by have := numP_in (l := s.data.toList) (q := q) (by rw [sz_list]; exact h.hp); rwa [sz_list] at this
 exact ⟨h1, ⟨h.bx.grown h3 (by simpa using h.ne), h2, h.ne, hin⟩, Tw2.of h3⟩
end
variable {w0 wr w' : World} {l : List (Nat × TypeId × Array Value)}
theorem Bxs.put (h : Bxs w0 wr l) (t : TypeId) (cs : Array Value) (g : Nat) (e : wr.heap.size = g) : Bxs w0 (wr.alloc (.cells cs t)) (l ++ [(g, t, cs)]) := e ▸ h.new t cs
theorem Bxs.two (w : World) (t u : TypeId) (a b : Array Value) : Bxs w ((w.alloc (.cells a t)).alloc (.cells b u)) [(w.heap.size, t, a), (w.heap.size + 1, u, b)] := ((Bxs.start w).new t a).put u b _ (by simp)
theorem nil_byt (W : World) : Byt W none 0 0 0 0 [] := ⟨rfl, Nat.le_refl _, Nat.zero_le _, fun h => absurd h (by simp), fun j u hu => by simp at hu⟩
def b01 (x : Bool) : Int := if x = true then 1 else 0
theorem encz_len (n : Int) (hn : n < 9223372036854775808) : (encz n).length ≤ 9 := by
 unfold encz
 split
 ·
  simp
 ·
  exact enc_length _ (by omega)
theorem enct_len (s : ByteArray) (hs : s.size ≤ 1000000) : (enct s).length ≤ s.size + 9 := by
 have := enc_length s.size (by omega); have h2 : s.data.toList.length = s.size := Array.length_toList
 unfold enct
 rw [List.length_append, h2]
 omega
theorem num_on {B : Nat} {w : World} {v : Value} {l : List UInt8} (h : Own 5 B w v l) (hB : B ≤ w.heap.size) (hl : l.length ≤ 600000) (n : Int) (hn : n < 9223372036854775808) : Calls Tryz.prog 53 #[v, .int .i64 n] w fun e w' => ∃ v', e = .returned v' ∧ Own 5 B w' v' (l ++ encz n) ∧ Below w.heap.size w w' := by
 obtain ⟨A, cap, b, rfl, hb⟩ := h.byt
 exact (num_any hb (by omega) n hn).mono fun _ _ ⟨v', h1, h2, h3⟩ => ⟨v', h1, h2.mono hB, h3⟩
theorem p_text_on {B : Nat} {w : World} {v : Value} {l : List UInt8} (h : Own 5 B w v l) (hB : B ≤ w.heap.size) (hl : l.length ≤ 600000) (s : ByteArray) (hs : s.size ≤ 1000000) : Calls Tryz.prog 52 #[v, .string s] w fun e w' => ∃ v', e = .returned v' ∧ Own 5 B w' v' (l ++ enct s) ∧ Below w.heap.size w w' := by
 obtain ⟨A, cap, b, rfl, hb⟩ := h.byt
 exact (p_text_any hb (by omega) s hs).mono fun _ _ ⟨v', h1, h2, h3⟩ => ⟨v', h1, h2.mono hB, h3⟩
end Go.Proofs.YtphijnkiiokieaaGreatDoor
namespace Go.Proofs.YtphijnkiiokieaaGreatDoor
open Go.RowKit
open Go.Lib hiding intOf
theorem belowP_nat (m : Nat) (l : List UInt8) (q : Ps) (x : Bool) : 0 ≤ (belowP m l q x).1 ∧ (belowP m l q x).1 ≤ m := by
 have : 0 ≤ (numP l q).1 := by
  unfold numP
  split
  ·
   exact Int.le_refl _
  ·
   split
   ·
    exact Int.natCast_nonneg _
   ·
    exact Int.le_refl _
 unfold belowP
 split
 ·
  simp
 ·
  rename_i h; simp only at h ⊢; omega
theorem numP_lt (l : List UInt8) (q : Ps) : (numP l q).1 < 9223372036854775808 := by
 unfold numP
 split
 ·
  show (0 : Int) < _; decide
 ·
  split
  ·
   rename_i h
   have := (rt_ok (l := l.drop q.p) (n := (rt (l.drop q.p)).1) (k := (rt (l.drop q.p)).2.1) (by rw [← h])).2.2.2
   show (((rt (l.drop q.p)).1 : Nat) : Int) < _
   omega
  ·
   show (0 : Int) < _; decide
section
variable {l R : List UInt8} {p : Nat}
theorem drop_step {a : List UInt8} (h : l.drop p = a ++ R) : l.drop (p + a.length) = R := by
 rw [← List.drop_drop, h, List.drop_left]
theorem numP_enc {n : Int} (h : l.drop p = encz n ++ R) (h0 : 0 ≤ n) (h1 : n < 9223372036854775808) : numP l ⟨p, 0⟩ = (n, ⟨p + (encz n).length, 0⟩) := by
 have he : encz n = enc n.toNat := by unfold encz; rw [if_neg (by omega)]
 have hr : rt (l.drop p) = (n.toNat, (enc n.toNat).length, 0) := by rw [h, he]; exact rt_enc _ (by omega) _
 unfold numP
 rw [if_neg (by simp)]; simp only [hr]; rw [if_pos trivial, he, Int.toNat_of_nonneg h0]
theorem textP_enc {t : ByteArray} (h : l.drop p = enct t ++ R) (hs : t.size ≤ 20000) : textP 20000 l ⟨p, 0⟩ = (t, ⟨p + (enct t).length, 0⟩) := by
 have hl : t.data.toList.length = t.size := Array.length_toList; have h' : l.drop p = enc t.size ++ (t.data.toList ++ R) := by rw [h]; unfold enct; rw [List.append_assoc]
 have hr : rt (l.drop p) = (t.size, (enc t.size).length, 0) := by rw [h']; exact rt_enc _ (by omega) _
 have hd : l.drop (p + (enc t.size).length) = t.data.toList ++ R := drop_step h'; have hlen : t.size ≤ l.length - (p + (enc t.size).length) := by rw [← List.length_drop, hd, List.length_append]; omega
 have hz : l.length < p + (enc t.size).length + t.size → False := by
  intro hh
  rcases Nat.eq_zero_or_pos t.size with hz | hz
  ·
   have h3 := congrArg List.length h'; rw [List.length_drop, List.length_append] at h3; have h4 : 1 ≤ (enc t.size).length := (rt_ok hr).2.1
   omega
  ·
   omega
 unfold textP
 rw [if_neg (by simp)]; simp only [hr]; rw [if_neg (by simp), if_neg (fun hh => hz hh), if_neg (by omega), hd, List.take_left' hl]
 unfold enct
 rw [List.length_append, hl, Nat.add_assoc]
theorem belowP_enc {n : Int} {m : Nat} {x : Bool} (h : l.drop p = encz n ++ R) (h0 : 0 ≤ n) (h1 : n ≤ m) (hm : m ≤ 2147483647) : belowP m l ⟨p, 0⟩ x = (n, ⟨p + (encz n).length, 0⟩, x) := by
 unfold belowP
 rw [numP_enc h h0 (by omega), if_neg (by omega)]
theorem markP_enc {b x : Bool} (h : l.drop p = encz (b01 b) ++ R) : markP l ⟨p, 0⟩ x = (b, ⟨p + (encz (b01 b)).length, 0⟩, x) := by
 unfold markP
 rw [belowP_enc (m := 1) h (by cases b <;> decide) (by cases b <;> decide) (by decide)]
 cases b <;> rfl
end
section
variable {l : List UInt8} {q : Ps} {x : Bool}
theorem numP_nat (l : List UInt8) (q : Ps) : 0 ≤ (numP l q).1 := by
 unfold numP
 split
 ·
  exact Int.le_refl _
 ·
  split
  ·
   exact Int.natCast_nonneg _
  ·
   exact Int.le_refl _
theorem numP_dec (h : (numP l q).2.e = 0) : q.e = 0 ∧ l.take (numP l q).2.p = l.take q.p ++ encz (numP l q).1 := by
 unfold numP at h ⊢
 split
 ·
  rename_i h1; rw [if_pos h1] at h; exact absurd h h1
 ·
  rename_i h1
  rw [if_neg h1] at h
  split
  ·
   rename_i h2
   have h3 := rt_ok (l := l.drop q.p) (n := (rt (l.drop q.p)).1) (k := (rt (l.drop q.p)).2.1) (by rw [← h2]); refine ⟨by simpa using h1, ?_⟩
   show l.take (q.p + (rt (l.drop q.p)).2.1) = _
   rw [List.take_add, ← h3.1]
   congr 1
  ·
   rename_i h2; rw [if_neg h2] at h; exact absurd h h2
theorem textP_dec (h : (textP 20000 l q).2.e = 0) : q.e = 0 ∧ l.take (textP 20000 l q).2.p = l.take q.p ++ enct (textP 20000 l q).1 ∧ (textP 20000 l q).1.size ≤ 20000 := by
 unfold textP at h ⊢
 split
 ·
  rename_i h1; rw [if_pos h1] at h; exact absurd h h1
 ·
  rename_i h1
  rw [if_neg h1] at h
  split
  ·
   rename_i h2; rw [if_pos h2] at h; exact absurd h h2
  ·
   rename_i h2
   rw [if_neg h2] at h
   split
   ·
    rename_i h3; rw [if_pos h3] at h; exact absurd h (show ¬ (14 : Int) = 0 by decide)
   ·
    rename_i h3
    rw [if_neg h3] at h
    split
    ·
     rename_i h4; rw [if_pos h4] at h; exact absurd h (show ¬ (2 : Int) = 0 by decide)
    ·
     rename_i h4
     have h2' : (rt (l.drop q.p)).2.2 = 0 := by simpa using h2
     have h5 := rt_ok (l := l.drop q.p) (n := (rt (l.drop q.p)).1) (k := (rt (l.drop q.p)).2.1) (by rw [← h2']); have hsz : (⟨((l.drop (q.p + (rt (l.drop q.p)).2.1)).take (rt (l.drop q.p)).1).toArray⟩ : ByteArray).size = (rt (l.drop q.p)).1 := by
      show Array.size _ = _
      rw [List.size_toArray, List.length_take, List.length_drop]
      omega
     refine ⟨by simpa using h1, ?_, by show (⟨_⟩ : ByteArray).size ≤ 20000; rw [hsz]; omega⟩
     show l.take (q.p + (rt (l.drop q.p)).2.1 + (rt (l.drop q.p)).1) = l.take q.p ++ enct _
     rw [List.take_add, List.take_add, ← h5.1]
     unfold enct
     rw [hsz, List.append_assoc]
theorem belowP_dec {m : Nat} (h : (belowP m l q x).2.1.e = 0) (hx : (belowP m l q x).2.2 = false) : q.e = 0 ∧ x = false ∧ l.take (belowP m l q x).2.1.p = l.take q.p ++ encz (belowP m l q x).1 := by
 unfold belowP at h hx ⊢
 split
 ·
  rename_i h1; rw [if_pos h1] at hx; cases hx
 ·
  rename_i h1
  rw [if_neg h1] at h hx
  exact ⟨(numP_dec h).1, hx, (numP_dec h).2⟩
theorem markP_dec (h : (markP l q x).2.1.e = 0) (hx : (markP l q x).2.2 = false) : q.e = 0 ∧ x = false ∧ l.take (markP l q x).2.1.p = l.take q.p ++ encz (b01 (markP l q x).1) := by
 have h1 := belowP_dec (m := 1) h hx; refine ⟨h1.1, h1.2.1, ?_⟩; have h2 := belowP_nat 1 l q x; have h3 : b01 (markP l q x).1 = (belowP 1 l q x).1 := by
  show b01 ((belowP 1 l q x).1 == 1) = _
  have : (belowP 1 l q x).1 = 0 ∨ (belowP 1 l q x).1 = 1 := by omega
  rcases this with e | e <;> rw [e] <;> rfl
 rw [h3]
 exact h1.2.2
end
theorem wread_any {A : Option Addr} {len cap b off : Nat} {w : World} {l : List UInt8} (h : Byt w A len cap b off l) :
  Calls Tryz.prog 30 #[.slice A len cap] w fun e w' => ∃ G g, e = .returned (.pointer (some ⟨G, 0, none⟩)) ∧ Wi w' G g ⟨l.toArray⟩ ⟨0, 0⟩ false ∧ w.heap.size ≤ g ∧ w.heap.size ≤ G ∧ Below w.heap.size w w' := by
 have HR := Zh (read_any h); clear h
 go_enter Tryz.func30, Tryz.ntmps30
 go_wp2_with fail
 refine HR.out.mono ?_; rintro _ w1 ⟨rfl, h1, h2⟩; have H1 := Zh h1; have H2 := Zh h2; clear h1 h2
 go_wp2
 go_ret
 have hlt := H1.out.lt; refine ⟨w1.heap.size, w.heap.size, rfl, ⟨Blk.new w1 _ _, H1.out.alloc _, by omega, Nat.zero_le _⟩, Nat.le_refl _, by omega, H2.out.alloc H2.out.size _⟩
def doneP (n : Nat) (q : Ps) (x : Bool) : Bool := !x && (q.e == 0) && decide (q.p = n)
section
variable {w : World} {G g : Nat} {s : ByteArray} {q : Ps} {x : Bool}
theorem Wi.keep {w' : World} (h : Wi w G g s q x) (hb : Below w.heap.size w w') : Wi w' G g s q x := ⟨h.bx.below hb h.bx.lt, h.rd.below hb h.rd.lt, h.ne, h.hp⟩
theorem wdone_any (h : Wi w G g s q x) (hs : s.size ≤ 1000000) : Calls Tryz.prog 36 #[.pointer (some ⟨G, 0, none⟩)] w fun r w' => r = .returned (.bool (doneP s.size q x)) ∧ Below w.heap.size w w' := by
 have c0 := h.bx.cell 0; have c1 := h.bx.cell 1; have HW := Zh h; have hp := h.hp; obtain ⟨r, hr⟩ : ∃ r, doneP s.size q x = r := ⟨_, rfl⟩; have HR := Zh (show (!x && (q.e == 0) && decide (q.p = s.size)) = r from hr); rw [hr]; clear h hr
 cases x with
 | true =>
  have H0 := Zh (show r = false by rw [← HR.out]; rfl)
  go_enter Tryz.func36, Tryz.ntmps36
  go_wp2
  go_ret
  exact ⟨by rw [H0.out]; rfl, Below.refl _ _⟩
 | false =>
  have HE := Zh (err_any HW.out.rd)
  cases he : (q.e == 0) with
  | false =>
   have H0 := Zh (show r = false by rw [← HR.out, he]; rfl)
   go_enter Tryz.func36, Tryz.ntmps36
   go_wp2_with fail
   refine HE.out.mono ?_; rintro _ w1 ⟨rfl, h1⟩; have H1 := Zh h1; clear h1
   go_wp2
   go_ret
   exact ⟨by rw [H0.out]; rfl, H1.out⟩
  | true =>
   have HQ := Zh (show r = decide (q.p = s.size) by rw [← HR.out, he]; rfl)
   go_enter Tryz.func36, Tryz.ntmps36
   go_wp2_with fail
   refine HE.out.mono ?_; rintro _ w1 ⟨rfl, h1⟩; have HW1 := Zh (HW.out.keep h1); have H1 := Zh h1; have d0 := HW1.out.bx.cell 0; have HL := Zh (left_any HW1.out.rd (by omega) (by omega) hs); clear h1
   by_cases hq : q.p = s.size
   ·
    have H0 := Zh (show r = true by rw [HQ.out, decide_eq_true hq]); have dl : ((s.size : Int) - (q.p : Int) == 0) = true := by simp; omega
    go_wp2_with fail
    refine HL.out.mono ?_; rintro _ w2 ⟨rfl, h1⟩; have H2 := Zh (H1.out.trans (h1.mono H1.out.size)); clear h1
    go_wp2
    go_ret
    exact ⟨by rw [H0.out]; rfl, H2.out⟩
   ·
    have H0 := Zh (show r = false by rw [HQ.out, decide_eq_false hq]); have dl : ((s.size : Int) - (q.p : Int) == 0) = false := by simp; omega
    go_wp2_with fail
    refine HL.out.mono ?_; rintro _ w2 ⟨rfl, h1⟩; have H2 := Zh (H1.out.trans (h1.mono H1.out.size)); clear h1
    go_wp2
    go_ret
    exact ⟨by rw [H0.out]; rfl, H2.out⟩
end
theorem own_tw {w1 w2 : World} {base G g : Nat} {e : TypeId} {k n : Nat} {v : Value} {xs : List Value} (h : w1.ownsRow base e k v n xs) (ht : Tw2 w1 w2 G g) (h1 : G < base) (h2 : g < base) : w2.ownsRow base e k v n xs := by
 obtain ⟨h0, h3 | ⟨b, cap, cur, e1, e2, e3, e4⟩⟩ := h
 ·
  exact ⟨h0, .inl h3⟩
 ·
  exact ⟨h0, .inr ⟨b, cap, cur, e1, e2, (ht.block b (Blk.lt e3) (by omega) (by omega)).trans e3, e4⟩⟩
theorem Tw2.ofBelow {w w' : World} {G g : Nat} (h : Below w.heap.size w w') : Tw2 w w' G g := ⟨h.os, h.tape, h.output, h.size, fun j h1 _ _ => h.block j h1⟩
theorem Tw2.far {w0 w : World} {G g : Nat} (h : Tw2 w0 w G g) {p : Addr} (hp : w0.heap.size ≤ p.block) (u : Value) : Tw2 w0 (w.setCell p u) G g :=
 ⟨h.os, h.tape, h.output, by simpa [World.setCell] using h.size, fun j h1 h2 h3 => (Below.heap_setCell w p u j (by omega)).trans (h.block j h1 h2 h3)⟩
theorem results_cell1 {fn : Func} {p u : Tmp} {ty : TypeId} (h : fn.results = #[.cell p ty, .tmp u]) (tmps : Array Value) (P : Program) (w : World) (g : Nat) (t : TypeId) (cs : Array Value) (fr : Nat × Nat) (fs : Array Field)
  (hp : tmps.getD p undef = .pointer (some ⟨g, 0, none⟩)) (hg : w.heap[g]? = some (.cells cs t fr))
  (hu : P.underlying ty = some (.struct fs)) (hi : (P.info? ty).map (·.size) = some cs.size) :
  (results fn tmps).run P w = .ok (.tuple #[.agg cs, tmps.getD u undef]) w := by
 have hp' : tmps[p]?.getD undef = .pointer (some ⟨g, 0, none⟩) := by simpa using hp
 simp [results, h, hp', asAddr, run_loadVar_row w g t ty cs fr _ hg hu rfl hi]
theorem Byt.on {w w' : World} {A : Option Addr} {len cap b off : Nat} {l : List UInt8} (h : Byt w A len cap b off l) (hb : Below w.heap.size w w') : Byt w' A len cap b off l :=
 ⟨h.hlen, h.le, h.hmax, fun hl => ⟨(h.addr hl).1, Nat.lt_of_lt_of_le (h.addr hl).2 hb.size⟩, fun j u hj => by
  have hlt : j < l.length := (List.getElem?_eq_some_iff.1 hj).1; have hbb := (h.addr (by have := h.hlen; omega)).2; rw [hb.cell (p := ⟨b, _, none⟩) hbb]
  exact h.cell j u hj⟩
structure Opn where
 d : Bool
 u : ByteArray
 c : ByteArray
 k : Int
 v : Int
structure Rq where
 k : Int
 t : ByteArray
 co : ByteArray
 u : ByteArray
 c : ByteArray
 ck : Int
 cv : Int
 ops : List Opn
 tok : Int
 mo : Int
 ti : Int
def bE : ByteArray := ⟨#[]⟩
def rqZ : Rq := ⟨0, bE, bE, bE, bE, 0, 0, [], 0, 0, 0⟩
def hT (k : Int) : Bool := decide (k = 1)
def hC (k : Int) : Bool := decide (2 ≤ k ∧ k ≤ 9)
def hU (k : Int) : Bool := decide (4 ≤ k ∧ k ≤ 6)
def hK (k : Int) : Bool := decide (k = 4)
def hN (k : Int) : Bool := decide (4 ≤ k ∧ k ≤ 5)
def hO (k : Int) : Bool := decide (k = 7)
def hW (k : Int) : Bool := decide (8 ≤ k ∧ k ≤ 9)
def hM (k : Int) : Bool := decide (k = 8)
def hI (k : Int) : Bool := decide (k = 9)
def encC (k v : Int) : List UInt8 := encz k ++ encz v
def encO (o : Opn) : List UInt8 := encz (b01 o.d) ++ enct o.u ++ (if o.d = true then [] else enct o.c) ++ encC o.k o.v
def opsB (l : List Opn) : List UInt8 := (l.map encO).flatten
def ot (b : Bool) (s : ByteArray) : List UInt8 := if b = true then enct s else []
def on (b : Bool) (n : Int) : List UInt8 := if b = true then encz n else []
def oc (b : Bool) (k v : Int) : List UInt8 := if b = true then encC k v else []
def oo (b : Bool) (l : List Opn) : List UInt8 := if b = true then encz (l.length : Int) ++ opsB l else []
def bytesQ (q : Rq) : List UInt8 := ot (hT q.k) q.t ++ ot (hC q.k) q.co ++ ot (hU q.k) q.u ++ ot (hK q.k) q.c ++ oc (hN q.k) q.ck q.cv ++ oo (hO q.k) q.ops ++ on (hW q.k) q.tok ++ on (hM q.k) q.mo ++ on (hI q.k) q.ti
def condP (l : List UInt8) (q : Ps) (x : Bool) : (Int × Int) × Ps × Bool :=
 (((belowP 2147483647 l q x).1, (numP l (belowP 2147483647 l q x).2.1).1), (numP l (belowP 2147483647 l q x).2.1).2, (belowP 2147483647 l q x).2.2)
def otP (b : Bool) (l : List UInt8) (q : Ps) : ByteArray × Ps := if b = true then textP 20000 l q else (bE, q)
def onP (b : Bool) (l : List UInt8) (q : Ps) : Int × Ps := if b = true then numP l q else (0, q)
def obP (b : Bool) (l : List UInt8) (q : Ps) (x : Bool) : Int × Ps × Bool := if b = true then belowP 2147483647 l q x else (0, q, x)
def ocP (b : Bool) (l : List UInt8) (q : Ps) (x : Bool) : (Int × Int) × Ps × Bool := if b = true then condP l q x else ((0, 0), q, x)
def opP (l : List UInt8) (q : Ps) (x : Bool) : Opn × Ps × Bool :=
 let a1 := markP l q x
 let a2 := textP 20000 l a1.2.1
 let a3 := otP (!a1.1) l a2.2
 let a4 := condP l a3.2 a1.2.2
 (⟨a1.1, a2.1, a3.1, a4.1.1, a4.1.2⟩, a4.2.1, a4.2.2)
def opsP : Nat → List UInt8 → Ps → Bool → List Opn × Ps × Bool
 | 0, _, q, x => ([], q, x)
 | n + 1, l, q, x => ((opP l q x).1 :: (opsP n l (opP l q x).2.1 (opP l q x).2.2).1, (opsP n l (opP l q x).2.1 (opP l q x).2.2).2)
def opsR (l : List UInt8) (q : Ps) (x : Bool) : List Opn × Ps × Bool := opsP (belowP 16 l q x).1.toNat l (belowP 16 l q x).2.1 (belowP 16 l q x).2.2
def ooP (b : Bool) (l : List UInt8) (q : Ps) (x : Bool) : List Opn × Ps × Bool := if b = true then opsR l q x else ([], q, x)
def rawQ (k : Int) (l : List UInt8) : Rq × Ps × Bool :=
 let a1 := otP (hT k) l ⟨0, 0⟩
 let a2 := otP (hC k) l a1.2
 let a3 := otP (hU k) l a2.2
 let a4 := otP (hK k) l a3.2
 let a5 := ocP (hN k) l a4.2 false
 let a6 := ooP (hO k) l a5.2.1 a5.2.2
 let a7 := onP (hW k) l a6.2.1
 let a8 := obP (hM k) l a7.2 a6.2.2
 let a9 := obP (hI k) l a8.2.1 a8.2.2
 (⟨k, a1.1, a2.1, a3.1, a4.1, a5.1.1, a5.1.2, a6.1, a7.1, a8.1, a9.1⟩, a9.2.1, a9.2.2)
structure GdO (o : Opn) : Prop where
 u : o.u.size ≤ 20000
 c : o.c.size ≤ 20000
 z : o.d = true → o.c = bE
 k0 : 0 ≤ o.k
 k : o.k ≤ 2147483647
 v0 : 0 ≤ o.v
 v : o.v < 9223372036854775808
structure GdQ (q : Rq) : Prop where
 t : q.t.size ≤ 20000
 zt : hT q.k = false → q.t = bE
 co : q.co.size ≤ 20000
 zco : hC q.k = false → q.co = bE
 u : q.u.size ≤ 20000
 zu : hU q.k = false → q.u = bE
 c : q.c.size ≤ 20000
 zc : hK q.k = false → q.c = bE
 ck0 : 0 ≤ q.ck
 ck : q.ck ≤ 2147483647
 cv0 : 0 ≤ q.cv
 cv : q.cv < 9223372036854775808
 zn : hN q.k = false → q.ck = 0 ∧ q.cv = 0
 n : q.ops.length ≤ 16
 ops : ∀ o ∈ q.ops, GdO o
 zo : hO q.k = false → q.ops = []
 w0 : 0 ≤ q.tok
 w : q.tok < 9223372036854775808
 zw : hW q.k = false → q.tok = 0
 m0 : 0 ≤ q.mo
 m : q.mo ≤ 2147483647
 zm : hM q.k = false → q.mo = 0
 i0 : 0 ≤ q.ti
 i : q.ti ≤ 2147483647
 zi : hI q.k = false → q.ti = 0
section
variable {l R : List UInt8} {p : Nat}
theorem condP_enc {k v : Int} {x : Bool} (h : l.drop p = encC k v ++ R) (h0 : 0 ≤ k) (h1 : k ≤ 2147483647) (h2 : 0 ≤ v) (h3 : v < 9223372036854775808) : condP l ⟨p, 0⟩ x = ((k, v), ⟨p + (encC k v).length, 0⟩, x) := by
 have e1 : l.drop p = encz k ++ (encz v ++ R) := by rw [h]; unfold encC; rw [List.append_assoc]
 have e2 := drop_step e1
 unfold condP
 rw [belowP_enc e1 h0 h1 (by decide)]
 simp only
 rw [numP_enc e2 h2 h3]
 simp only
 unfold encC
 rw [List.length_append, Nat.add_assoc]
theorem otP_enc {b : Bool} {t : ByteArray} (h : l.drop p = ot b t ++ R) (hs : t.size ≤ 20000) (hz : b = false → t = bE) : otP b l ⟨p, 0⟩ = (t, ⟨p + (ot b t).length, 0⟩) := by
 cases b with
 | true => unfold otP; rw [if_pos rfl]; exact textP_enc h hs
 | false => rw [hz rfl]; rfl
theorem onP_enc {b : Bool} {n : Int} (h : l.drop p = on b n ++ R) (h0 : 0 ≤ n) (h1 : n < 9223372036854775808) (hz : b = false → n = 0) : onP b l ⟨p, 0⟩ = (n, ⟨p + (on b n).length, 0⟩) := by
 cases b with
 | true => unfold onP; rw [if_pos rfl]; exact numP_enc h h0 h1
 | false => rw [hz rfl]; rfl
theorem obP_enc {b : Bool} {n : Int} {x : Bool} (h : l.drop p = on b n ++ R) (h0 : 0 ≤ n) (h1 : n ≤ 2147483647) (hz : b = false → n = 0) : obP b l ⟨p, 0⟩ x = (n, ⟨p + (on b n).length, 0⟩, x) := by
 cases b with
 | true => unfold obP; rw [if_pos rfl]; exact belowP_enc h h0 h1 (by decide)
 | false => rw [hz rfl]; rfl
theorem ocP_enc {b : Bool} {k v : Int} {x : Bool} (h : l.drop p = oc b k v ++ R) (h0 : 0 ≤ k) (h1 : k ≤ 2147483647) (h2 : 0 ≤ v) (h3 : v < 9223372036854775808) (hz : b = false → k = 0 ∧ v = 0) : ocP b l ⟨p, 0⟩ x = ((k, v), ⟨p + (oc b k v).length, 0⟩, x) := by
 cases b with
 | true => unfold ocP; rw [if_pos rfl]; exact condP_enc h h0 h1 h2 h3
 | false => rw [(hz rfl).1, (hz rfl).2]; rfl
theorem opP_enc {o : Opn} {x : Bool} (h : l.drop p = encO o ++ R) (g : GdO o) : opP l ⟨p, 0⟩ x = (o, ⟨p + (encO o).length, 0⟩, x) := by
 obtain ⟨d, u, c, k, v⟩ := o; have eo : encO ⟨d, u, c, k, v⟩ = encz (b01 d) ++ (enct u ++ (ot (!d) c ++ encC k v)) := by unfold encO ot; cases d <;> simp
 have h1 : l.drop p = encz (b01 d) ++ (enct u ++ (ot (!d) c ++ (encC k v ++ R))) := by rw [h, eo]; simp
 have h2 := drop_step h1; have h3 := drop_step h2; have h4 := drop_step h3
 unfold opP
 simp only
 rw [markP_enc h1]
 simp only
 rw [textP_enc h2 g.u]
 simp only
 rw [otP_enc h3 g.c (fun e => g.z (by simpa using e))]
 simp only
 rw [condP_enc h4 g.k0 g.k g.v0 g.v]
 simp only
 rw [eo]; simp only [List.length_append, Nat.add_assoc]
theorem opsP_enc : ∀ (xs : List Opn) (p : Nat) (x : Bool), l.drop p = opsB xs ++ R → (∀ t ∈ xs, GdO t) → opsP xs.length l ⟨p, 0⟩ x = (xs, ⟨p + (opsB xs).length, 0⟩, x)
 | [], p, x, h, _ => by simp [opsP, opsB]
 | t :: xs, p, x, h, g => by
  have e : opsB (t :: xs) = encO t ++ opsB xs := by unfold opsB; simp
  have h1 : l.drop p = encO t ++ (opsB xs ++ R) := by rw [h, e, List.append_assoc]
  have h2 := opsP_enc xs (p + (encO t).length) x (drop_step h1) (fun s hs => g s (List.mem_cons_of_mem _ hs))
  show opsP (xs.length + 1) l ⟨p, 0⟩ x = _
  unfold opsP
  rw [opP_enc h1 (g t List.mem_cons_self)]
  simp only
  rw [h2]
  simp only
  rw [e, List.length_append, Nat.add_assoc]
theorem ooP_enc {b : Bool} {xs : List Opn} {x : Bool} (h : l.drop p = oo b xs ++ R) (hn : xs.length ≤ 16) (g : ∀ t ∈ xs, GdO t) (hz : b = false → xs = []) : ooP b l ⟨p, 0⟩ x = (xs, ⟨p + (oo b xs).length, 0⟩, x) := by
 cases b with
 | true =>
  have h1 : l.drop p = encz (xs.length : Int) ++ (opsB xs ++ R) := by rw [h]; unfold oo; rw [if_pos rfl, List.append_assoc]
  unfold ooP opsR
  rw [if_pos rfl, belowP_enc h1 (by omega) (by omega) (by decide)]; simp only [Int.toNat_natCast]; rw [opsP_enc xs _ x (drop_step h1) g]
  unfold oo
  rw [if_pos rfl, List.length_append, Nat.add_assoc]
 | false => rw [hz rfl]; rfl
theorem rawQ_enc (q : Rq) (g : GdQ q) (R : List UInt8) : rawQ q.k (bytesQ q ++ R) = (q, ⟨(bytesQ q).length, 0⟩, false) := by
 have h1 : (bytesQ q ++ R).drop 0 = ot (hT q.k) q.t ++ (ot (hC q.k) q.co ++ (ot (hU q.k) q.u ++ (ot (hK q.k) q.c ++ (oc (hN q.k) q.ck q.cv ++ (oo (hO q.k) q.ops ++ (on (hW q.k) q.tok ++ (on (hM q.k) q.mo ++ (on (hI q.k) q.ti ++ R)))))))) := by
  rw [List.drop_zero]; unfold bytesQ; simp only [List.append_assoc]
 have hlen : (bytesQ q).length = 0 + (ot (hT q.k) q.t).length + (ot (hC q.k) q.co).length + (ot (hU q.k) q.u).length + (ot (hK q.k) q.c).length + (oc (hN q.k) q.ck q.cv).length + (oo (hO q.k) q.ops).length + (on (hW q.k) q.tok).length + (on (hM q.k) q.mo).length + (on (hI q.k) q.ti).length := by
  unfold bytesQ; simp only [List.length_append]; omega
 obtain ⟨l, hl⟩ : ∃ l, bytesQ q ++ R = l := ⟨_, rfl⟩; rw [hl] at h1 ⊢; have h2 := drop_step h1; have h3 := drop_step h2; have h4 := drop_step h3; have h5 := drop_step h4; have h6 := drop_step h5; have h7 := drop_step h6; have h8 := drop_step h7; have h9 := drop_step h8
 unfold rawQ
 simp only
 rw [otP_enc h1 g.t g.zt]
 simp only
 rw [otP_enc h2 g.co g.zco]
 simp only
 rw [otP_enc h3 g.u g.zu]
 simp only
 rw [otP_enc h4 g.c g.zc]
 simp only
 rw [ocP_enc h5 g.ck0 g.ck g.cv0 g.cv g.zn]
 simp only
 rw [ooP_enc h6 g.n g.ops g.zo]
 simp only
 rw [onP_enc h7 g.w0 g.w g.zw]
 simp only
 rw [obP_enc h8 g.m0 g.m g.zm]
 simp only
 rw [obP_enc h9 g.i0 g.i g.zi]
 simp only
 rw [hlen]
end
section
variable {l : List UInt8} {q : Ps} {x : Bool}
theorem belowP_le (m : Nat) (l : List UInt8) (q : Ps) (x : Bool) : (belowP m l q x).1 ≤ m := (belowP_nat m l q x).2
theorem condP_dec (h : (condP l q x).2.1.e = 0) (hx : (condP l q x).2.2 = false) : q.e = 0 ∧ x = false ∧ l.take (condP l q x).2.1.p = l.take q.p ++ encC (condP l q x).1.1 (condP l q x).1.2 ∧ (0 ≤ (condP l q x).1.1 ∧ (condP l q x).1.1 ≤ 2147483647 ∧ 0 ≤ (condP l q x).1.2 ∧ (condP l q x).1.2 < 9223372036854775808) := by
 unfold condP at h hx ⊢
 simp only at h hx ⊢; have h2 := numP_dec h; have h1 := belowP_dec h2.1 hx; refine ⟨h1.1, h1.2.1, ?_, (belowP_nat _ _ _ _).1, by have := belowP_le 2147483647 l q x; omega, numP_nat _ _, numP_lt _ _⟩; rw [h2.2, h1.2.2]
 unfold encC
 rw [List.append_assoc]
theorem otP_dec {b : Bool} (h : (otP b l q).2.e = 0) : q.e = 0 ∧ l.take (otP b l q).2.p = l.take q.p ++ ot b (otP b l q).1 ∧ (otP b l q).1.size ≤ 20000 ∧ (b = false → (otP b l q).1 = bE) := by
 cases b with
 | true =>
  have h' : (textP 20000 l q).2.e = 0 := h; have h1 := textP_dec h'
  exact ⟨h1.1, h1.2.1, h1.2.2, fun e => by cases e⟩
 | false => exact ⟨h, by show _ = _ ++ []; rw [List.append_nil]; rfl, Nat.zero_le _, fun _ => rfl⟩
theorem onP_dec {b : Bool} (h : (onP b l q).2.e = 0) : q.e = 0 ∧ l.take (onP b l q).2.p = l.take q.p ++ on b (onP b l q).1 ∧ (0 ≤ (onP b l q).1 ∧ (onP b l q).1 < 9223372036854775808) ∧ (b = false → (onP b l q).1 = 0) := by
 cases b with
 | true =>
  have h' : (numP l q).2.e = 0 := h; have h1 := numP_dec h'
  exact ⟨h1.1, h1.2, ⟨numP_nat _ _, numP_lt _ _⟩, fun e => by cases e⟩
 | false => exact ⟨h, by show _ = _ ++ []; rw [List.append_nil]; rfl, ⟨Int.le_refl 0, show (0 : Int) < _ by decide⟩, fun _ => rfl⟩
theorem obP_dec {b : Bool} (h : (obP b l q x).2.1.e = 0) (hx : (obP b l q x).2.2 = false) : q.e = 0 ∧ x = false ∧ l.take (obP b l q x).2.1.p = l.take q.p ++ on b (obP b l q x).1 ∧ (0 ≤ (obP b l q x).1 ∧ (obP b l q x).1 ≤ 2147483647) ∧ (b = false → (obP b l q x).1 = 0) := by
 cases b with
 | true =>
  have h' : (belowP 2147483647 l q x).2.1.e = 0 := h; have hx' : (belowP 2147483647 l q x).2.2 = false := hx; have h1 := belowP_dec h' hx'
  exact ⟨h1.1, h1.2.1, h1.2.2, ⟨(belowP_nat _ _ _ _).1, belowP_le 2147483647 l q x⟩, fun e => by cases e⟩
 | false => exact ⟨h, hx, by show _ = _ ++ []; rw [List.append_nil]; rfl, ⟨Int.le_refl 0, show (0 : Int) ≤ _ by decide⟩, fun _ => rfl⟩
theorem ocP_dec {b : Bool} (h : (ocP b l q x).2.1.e = 0) (hx : (ocP b l q x).2.2 = false) : q.e = 0 ∧ x = false ∧ l.take (ocP b l q x).2.1.p = l.take q.p ++ oc b (ocP b l q x).1.1 (ocP b l q x).1.2 ∧ (0 ≤ (ocP b l q x).1.1 ∧ (ocP b l q x).1.1 ≤ 2147483647 ∧ 0 ≤ (ocP b l q x).1.2 ∧ (ocP b l q x).1.2 < 9223372036854775808) ∧ (b = false → (ocP b l q x).1.1 = 0 ∧ (ocP b l q x).1.2 = 0) := by
 cases b with
 | true =>
  have h1 := condP_dec (show (condP l q x).2.1.e = 0 from h) (show (condP l q x).2.2 = false from hx)
  exact ⟨h1.1, h1.2.1, h1.2.2.1, h1.2.2.2, fun e => by cases e⟩
 | false => exact ⟨h, hx, by show _ = _ ++ []; rw [List.append_nil]; rfl, ⟨Int.le_refl 0, show (0 : Int) ≤ _ by decide, Int.le_refl 0, show (0 : Int) < _ by decide⟩, fun _ => ⟨rfl, rfl⟩⟩
theorem opP_dec (h : (opP l q x).2.1.e = 0) (hx : (opP l q x).2.2 = false) : q.e = 0 ∧ x = false ∧ l.take (opP l q x).2.1.p = l.take q.p ++ encO (opP l q x).1 ∧ GdO (opP l q x).1 := by
 unfold opP at h hx ⊢
 simp only at h hx ⊢; have h4 := condP_dec h hx; have h3 := otP_dec h4.1; have h2 := textP_dec h3.1; have h1 := markP_dec h2.1 h4.2.1; refine ⟨h1.1, h1.2.1, ?_, ⟨h2.2.2, h3.2.2.1, fun e => h3.2.2.2 (by simpa using e), h4.2.2.2.1, h4.2.2.2.2.1, h4.2.2.2.2.2.1, h4.2.2.2.2.2.2⟩⟩; rw [h4.2.2.1, h3.2.1, h2.2.1, h1.2.2]
 unfold encO ot
 cases (markP l q x).1 <;> simp
theorem opsP_dec (l : List UInt8) : ∀ (n : Nat) (q : Ps) (x : Bool), (opsP n l q x).2.1.e = 0 → (opsP n l q x).2.2 = false → q.e = 0 ∧ x = false ∧ l.take (opsP n l q x).2.1.p = l.take q.p ++ opsB (opsP n l q x).1 ∧ (opsP n l q x).1.length = n ∧ ∀ t ∈ (opsP n l q x).1, GdO t
 | 0, q, x, h, hx => ⟨h, hx, by simp [opsP, opsB], rfl, fun t ht => by simp [opsP] at ht⟩
 | n + 1, q, x, h, hx => by
  unfold opsP at h hx ⊢
  simp only at h hx ⊢; have h2 := opsP_dec l n _ _ h hx; have h1 := opP_dec h2.1 h2.2.1; refine ⟨h1.1, h1.2.1, ?_, by rw [List.length_cons, h2.2.2.2.1], fun t ht => ?_⟩
  ·
   rw [h2.2.2.1, h1.2.2.1]
   unfold opsB
   rw [List.map_cons, List.flatten_cons, List.append_assoc]
  ·
   rcases List.mem_cons.1 ht with rfl | ht
   ·
    exact h1.2.2.2
   ·
    exact h2.2.2.2.2 t ht
theorem ooP_dec {b : Bool} (h : (ooP b l q x).2.1.e = 0) (hx : (ooP b l q x).2.2 = false) : q.e = 0 ∧ x = false ∧ l.take (ooP b l q x).2.1.p = l.take q.p ++ oo b (ooP b l q x).1 ∧ (ooP b l q x).1.length ≤ 16 ∧ (∀ t ∈ (ooP b l q x).1, GdO t) ∧ (b = false → (ooP b l q x).1 = []) := by
 cases b with
 | true =>
  have h' : (opsR l q x).2.1.e = 0 := h; have hx' : (opsR l q x).2.2 = false := hx
  show q.e = 0 ∧ x = false ∧ l.take (opsR l q x).2.1.p = l.take q.p ++ oo true (opsR l q x).1 ∧ (opsR l q x).1.length ≤ 16 ∧ (∀ t ∈ (opsR l q x).1, GdO t) ∧ _
  unfold opsR at h' hx' ⊢
  have h2 := opsP_dec l _ _ _ h' hx'; have h1 := belowP_dec h2.1 h2.2.1; have hb := belowP_nat 16 l q x; refine ⟨h1.1, h1.2.1, ?_, by rw [h2.2.2.2.1]; omega, h2.2.2.2.2, fun e => by cases e⟩; rw [h2.2.2.1, h1.2.2]
  unfold oo
  rw [if_pos rfl, h2.2.2.2.1, Int.toNat_of_nonneg hb.1, List.append_assoc]
 | false => exact ⟨h, hx, by show _ = _ ++ []; rw [List.append_nil]; rfl, Nat.zero_le _, fun t ht => (nomatch ht), fun _ => rfl⟩
theorem rawQ_dec (k : Int) (l : List UInt8) (h : (rawQ k l).2.1.e = 0) (hx : (rawQ k l).2.2 = false) : l.take (rawQ k l).2.1.p = bytesQ (rawQ k l).1 ∧ GdQ (rawQ k l).1 ∧ (rawQ k l).1.k = k := by
 unfold rawQ at h hx ⊢
 simp only at h hx ⊢; have h9 := obP_dec h hx; have h8 := obP_dec h9.1 h9.2.1; have h7 := onP_dec h8.1; have h6 := ooP_dec h7.1 h8.2.1; have h5 := ocP_dec h6.1 h6.2.1; have h4 := otP_dec h5.1; have h3 := otP_dec h4.1; have h2 := otP_dec h3.1; have h1 := otP_dec h2.1; refine ⟨?_, ⟨h1.2.2.1, h1.2.2.2, h2.2.2.1, h2.2.2.2, h3.2.2.1, h3.2.2.2, h4.2.2.1, h4.2.2.2, h5.2.2.2.1.1, h5.2.2.2.1.2.1, h5.2.2.2.1.2.2.1, h5.2.2.2.1.2.2.2, h5.2.2.2.2, h6.2.2.2.1, h6.2.2.2.2.1, h6.2.2.2.2.2, h7.2.2.1.1, h7.2.2.1.2, h7.2.2.2, h8.2.2.2.1.1, h8.2.2.2.1.2, h8.2.2.2.2, h9.2.2.2.1.1, h9.2.2.2.1.2, h9.2.2.2.2⟩, trivial⟩
 unfold bytesQ
 simp only
 rw [h9.2.2.1, h8.2.2.1, h7.2.1, h6.2.2.1, h5.2.2.1, h4.2.1, h3.2.1, h2.2.1, h1.2.1]
 simp
end
def donQ (k : Int) (l : List UInt8) : Bool := doneP l.length (rawQ k l).2.1 (rawQ k l).2.2
theorem rawQ_ok {k : Int} {l : List UInt8} (h : donQ k l = true) : bytesQ (rawQ k l).1 = l ∧ GdQ (rawQ k l).1 ∧ (rawQ k l).1.k = k := by
 unfold donQ doneP at h
 simp only [Bool.and_eq_true, Bool.not_eq_true', beq_iff_eq, decide_eq_true_eq] at h; obtain ⟨⟨hx, he⟩, hp⟩ := h; have := rawQ_dec k l he hx; rw [hp, List.take_length] at this
 exact ⟨this.1.symm, this.2⟩
theorem donQ_enc (q : Rq) (g : GdQ q) : rawQ q.k (bytesQ q) = (q, ⟨(bytesQ q).length, 0⟩, false) ∧ donQ q.k (bytesQ q) = true := by
 have h := rawQ_enc q g []; rw [List.append_nil] at h; refine ⟨h, ?_⟩
 unfold donQ
 rw [h]
 unfold doneP
 simp
end Go.Proofs.YtphijnkiiokieaaGreatDoor
