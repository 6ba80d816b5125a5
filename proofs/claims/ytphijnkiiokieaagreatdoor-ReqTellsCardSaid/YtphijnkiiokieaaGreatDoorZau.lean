/- Texts of one proof, joined. -/
import Derived.Test.YtphijnkiiokieaaGreatDoorZat
set_option linter.unusedVariables false
set_option linter.unusedSimpArgs false
set_option maxRecDepth 100000
set_option maxHeartbeats 80000000
namespace Go.Proofs.YtphijnkiiokieaaGreatDoor
open Go.RowKit
open Go.Lib hiding intOf
def mkE (n e : Int) : Int := if e = 0 ∧ 1 < n then 1 else e
def smX (l : List UInt8) (q : Ps) : Int × Ps := (if 2147483647 < (numP l q).1 then 0 else (numP l q).1, ⟨(numP l q).2.p, if 2147483647 < (numP l q).1 then 1 else (numP l q).2.e⟩)
def mkX (l : List UInt8) (q : Ps) : Bool × Ps := ((numP l q).1 == 1, ⟨(numP l q).2.p, mkE (numP l q).1 (numP l q).2.e⟩)
def condX (l : List UInt8) (q : Ps) : (Int × Int) × Ps := (((smX l q).1, (numP l (smX l q).2).1), (numP l (smX l q).2).2)
def osX (b : Bool) (l : List UInt8) (q : Ps) : Int × Ps := if b = true then smX l q else (0, q)
def ocX (b : Bool) (l : List UInt8) (q : Ps) : (Int × Int) × Ps := if b = true then condX l q else ((0, 0), q)
def opX (l : List UInt8) (q : Ps) : Opn × Ps :=
 let a1 := mkX l q
 let a2 := textP 20000 l a1.2
 let a3 := otP (!a1.1) l a2.2
 let a4 := condX l a3.2
 (⟨a1.1, a2.1, a3.1, a4.1.1, a4.1.2⟩, a4.2)
def opsX : Nat → List UInt8 → Ps → List Opn × Ps
 | 0, _, q => ([], q)
 | n + 1, l, q => if q.e ≠ 0 then ([], q) else ((opX l q).1 :: (opsX n l (opX l q).2).1, (opsX n l (opX l q).2).2)
def opsZ (l : List UInt8) (q : Ps) : List Opn × Ps := if 16 < (smX l q).1 then ([], ⟨(smX l q).2.p, 1⟩) else opsX (smX l q).1.toNat l (smX l q).2
def ooX (b : Bool) (l : List UInt8) (q : Ps) : List Opn × Ps := if b = true then opsZ l q else ([], q)
def refQ (k : Int) (l : List UInt8) : Rq × Ps :=
 let a1 := otP (hT k) l ⟨0, 0⟩
 let a2 := otP (hC k) l a1.2
 let a3 := otP (hU k) l a2.2
 let a4 := otP (hK k) l a3.2
 let a5 := ocX (hN k) l a4.2
 let a6 := ooX (hO k) l a5.2
 let a7 := onP (hW k) l a6.2
 let a8 := osX (hM k) l a7.2
 let a9 := osX (hI k) l a8.2
 (⟨k, a1.1, a2.1, a3.1, a4.1, a5.1.1, a5.1.2, a6.1, a7.1, a8.1, a9.1⟩, a9.2)
section
variable {l R : List UInt8} {p : Nat} {q : Ps}
theorem smX_enc {n : Int} (h : l.drop p = encz n ++ R) (h0 : 0 ≤ n) (h1 : n ≤ 2147483647) : smX l ⟨p, 0⟩ = (n, ⟨p + (encz n).length, 0⟩) := by
 unfold smX
 rw [numP_enc h h0 (by omega)]
 simp only
 rw [if_neg (by omega), if_neg (by omega)]
theorem mkX_enc {b : Bool} (h : l.drop p = encz (b01 b) ++ R) : mkX l ⟨p, 0⟩ = (b, ⟨p + (encz (b01 b)).length, 0⟩) := by
 unfold mkX mkE
 rw [numP_enc h (by cases b <;> decide) (by cases b <;> decide)]
 cases b <;> rfl
theorem condX_enc {k v : Int} (h : l.drop p = encC k v ++ R) (h0 : 0 ≤ k) (h1 : k ≤ 2147483647) (h2 : 0 ≤ v) (h3 : v < 9223372036854775808) : condX l ⟨p, 0⟩ = ((k, v), ⟨p + (encC k v).length, 0⟩) := by
 have e1 : l.drop p = encz k ++ (encz v ++ R) := by rw [h]; unfold encC; rw [List.append_assoc]
 have e2 := drop_step e1
 unfold condX
 rw [smX_enc e1 h0 h1]
 simp only
 rw [numP_enc e2 h2 h3]
 simp only
 unfold encC
 rw [List.length_append, Nat.add_assoc]
theorem osX_enc {b : Bool} {n : Int} (h : l.drop p = on b n ++ R) (h0 : 0 ≤ n) (h1 : n ≤ 2147483647) (hz : b = false → n = 0) : osX b l ⟨p, 0⟩ = (n, ⟨p + (on b n).length, 0⟩) := by
 cases b with
 | true => unfold osX; rw [if_pos rfl]; exact smX_enc h h0 h1
 | false => rw [hz rfl]; rfl
theorem ocX_enc {b : Bool} {k v : Int} (h : l.drop p = oc b k v ++ R) (h0 : 0 ≤ k) (h1 : k ≤ 2147483647) (h2 : 0 ≤ v) (h3 : v < 9223372036854775808) (hz : b = false → k = 0 ∧ v = 0) : ocX b l ⟨p, 0⟩ = ((k, v), ⟨p + (oc b k v).length, 0⟩) := by
 cases b with
 | true => unfold ocX; rw [if_pos rfl]; exact condX_enc h h0 h1 h2 h3
 | false => rw [(hz rfl).1, (hz rfl).2]; rfl
theorem opX_enc {o : Opn} (h : l.drop p = encO o ++ R) (g : GdO o) : opX l ⟨p, 0⟩ = (o, ⟨p + (encO o).length, 0⟩) := by
 obtain ⟨d, u, c, k, v⟩ := o; have eo : encO ⟨d, u, c, k, v⟩ = encz (b01 d) ++ (enct u ++ (ot (!d) c ++ encC k v)) := by unfold encO ot; cases d <;> simp
 have h1 : l.drop p = encz (b01 d) ++ (enct u ++ (ot (!d) c ++ (encC k v ++ R))) := by rw [h, eo]; simp
 have h2 := drop_step h1; have h3 := drop_step h2; have h4 := drop_step h3
 unfold opX
 simp only
 rw [mkX_enc h1]
 simp only
 rw [textP_enc h2 g.u]
 simp only
 rw [otP_enc h3 g.c (fun e => g.z (by simpa using e))]
 simp only
 rw [condX_enc h4 g.k0 g.k g.v0 g.v]
 simp only
 rw [eo]; simp only [List.length_append, Nat.add_assoc]
theorem opsX_enc : ∀ (xs : List Opn) (p : Nat), l.drop p = opsB xs ++ R → (∀ t ∈ xs, GdO t) → opsX xs.length l ⟨p, 0⟩ = (xs, ⟨p + (opsB xs).length, 0⟩)
 | [], p, h, _ => by simp [opsX, opsB]
 | t :: xs, p, h, g => by
  have e : opsB (t :: xs) = encO t ++ opsB xs := by unfold opsB; simp
  have h1 : l.drop p = encO t ++ (opsB xs ++ R) := by rw [h, e, List.append_assoc]
  have h2 := opsX_enc xs (p + (encO t).length) (drop_step h1) (fun s hs => g s (List.mem_cons_of_mem _ hs))
  show opsX (xs.length + 1) l ⟨p, 0⟩ = _
  unfold opsX
  rw [if_neg (by simp), opX_enc h1 (g t List.mem_cons_self)]
  simp only
  rw [h2]
  simp only
  rw [e, List.length_append, Nat.add_assoc]
theorem ooX_enc {b : Bool} {xs : List Opn} (h : l.drop p = oo b xs ++ R) (hn : xs.length ≤ 16) (g : ∀ t ∈ xs, GdO t) (hz : b = false → xs = []) : ooX b l ⟨p, 0⟩ = (xs, ⟨p + (oo b xs).length, 0⟩) := by
 cases b with
 | true =>
  have h1 : l.drop p = encz (xs.length : Int) ++ (opsB xs ++ R) := by rw [h]; unfold oo; rw [if_pos rfl, List.append_assoc]
  unfold ooX opsZ
  rw [if_pos rfl, smX_enc h1 (by omega) (by omega)]; simp only [Int.toNat_natCast]; rw [if_neg (by omega), opsX_enc xs _ (drop_step h1) g]
  unfold oo
  rw [if_pos rfl, List.length_append, Nat.add_assoc]
 | false => rw [hz rfl]; rfl
theorem refQ_enc (q : Rq) (g : GdQ q) (R : List UInt8) : refQ q.k (bytesQ q ++ R) = (q, ⟨(bytesQ q).length, 0⟩) := by
 have h1 : (bytesQ q ++ R).drop 0 = ot (hT q.k) q.t ++ (ot (hC q.k) q.co ++ (ot (hU q.k) q.u ++ (ot (hK q.k) q.c ++ (oc (hN q.k) q.ck q.cv ++ (oo (hO q.k) q.ops ++ (on (hW q.k) q.tok ++ (on (hM q.k) q.mo ++ (on (hI q.k) q.ti ++ R)))))))) := by
  rw [List.drop_zero]; unfold bytesQ; simp only [List.append_assoc]
 have hlen : (bytesQ q).length = 0 + (ot (hT q.k) q.t).length + (ot (hC q.k) q.co).length + (ot (hU q.k) q.u).length + (ot (hK q.k) q.c).length + (oc (hN q.k) q.ck q.cv).length + (oo (hO q.k) q.ops).length + (on (hW q.k) q.tok).length + (on (hM q.k) q.mo).length + (on (hI q.k) q.ti).length := by
  unfold bytesQ; simp only [List.length_append]; omega
 obtain ⟨l, hl⟩ : ∃ l, bytesQ q ++ R = l := ⟨_, rfl⟩; rw [hl] at h1 ⊢; have h2 := drop_step h1; have h3 := drop_step h2; have h4 := drop_step h3; have h5 := drop_step h4; have h6 := drop_step h5; have h7 := drop_step h6; have h8 := drop_step h7; have h9 := drop_step h8
 unfold refQ
 simp only
 rw [otP_enc h1 g.t g.zt]
 simp only
 rw [otP_enc h2 g.co g.zco]
 simp only
 rw [otP_enc h3 g.u g.zu]
 simp only
 rw [otP_enc h4 g.c g.zc]
 simp only
 rw [ocX_enc h5 g.ck0 g.ck g.cv0 g.cv g.zn]
 simp only
 rw [ooX_enc h6 g.n g.ops g.zo]
 simp only
 rw [onP_enc h7 g.w0 g.w g.zw]
 simp only
 rw [osX_enc h8 g.m0 g.m g.zm]
 simp only
 rw [osX_enc h9 g.i0 g.i g.zi]
 simp only
 rw [hlen]
theorem smX_dec (h : (smX l q).2.e = 0) : q.e = 0 ∧ l.take (smX l q).2.p = l.take q.p ++ encz (smX l q).1 ∧ 0 ≤ (smX l q).1 ∧ (smX l q).1 ≤ 2147483647 := by
 unfold smX at h ⊢
 simp only at h ⊢
 split at h
 ·
  cases h
 ·
  rename_i h1
  rw [if_neg h1]
  exact ⟨(numP_dec h).1, (numP_dec h).2, numP_nat _ _, by omega⟩
theorem mkX_dec (h : (mkX l q).2.e = 0) : q.e = 0 ∧ l.take (mkX l q).2.p = l.take q.p ++ encz (b01 (mkX l q).1) := by
 unfold mkX mkE at h ⊢
 simp only at h ⊢
 split at h
 ·
  cases h
 ·
  rename_i h1
  have h2 : ¬ 1 < (numP l q).1 := fun h3 => h1 ⟨h, h3⟩
  have h3 := numP_nat l q; have h4 : b01 ((numP l q).1 == 1) = (numP l q).1 := by
   have : (numP l q).1 = 0 ∨ (numP l q).1 = 1 := by omega
   rcases this with e | e <;> rw [e] <;> rfl
  rw [h4]
  exact numP_dec h
theorem condX_dec (h : (condX l q).2.e = 0) : q.e = 0 ∧ l.take (condX l q).2.p = l.take q.p ++ encC (condX l q).1.1 (condX l q).1.2 ∧ (0 ≤ (condX l q).1.1 ∧ (condX l q).1.1 ≤ 2147483647 ∧ 0 ≤ (condX l q).1.2 ∧ (condX l q).1.2 < 9223372036854775808) := by
 unfold condX at h ⊢
 simp only at h ⊢; have h2 := numP_dec h; have h1 := smX_dec h2.1; refine ⟨h1.1, ?_, h1.2.2.1, h1.2.2.2, numP_nat _ _, numP_lt _ _⟩; rw [h2.2, h1.2.1]
 unfold encC
 rw [List.append_assoc]
theorem osX_dec {b : Bool} (h : (osX b l q).2.e = 0) : q.e = 0 ∧ l.take (osX b l q).2.p = l.take q.p ++ on b (osX b l q).1 ∧ (0 ≤ (osX b l q).1 ∧ (osX b l q).1 ≤ 2147483647) ∧ (b = false → (osX b l q).1 = 0) := by
 cases b with
 | true =>
  have h1 := smX_dec (show (smX l q).2.e = 0 from h)
  exact ⟨h1.1, h1.2.1, h1.2.2, fun e => by cases e⟩
 | false => exact ⟨h, by show _ = _ ++ []; rw [List.append_nil]; rfl, ⟨Int.le_refl 0, show (0 : Int) ≤ _ by decide⟩, fun _ => rfl⟩
theorem ocX_dec {b : Bool} (h : (ocX b l q).2.e = 0) : q.e = 0 ∧ l.take (ocX b l q).2.p = l.take q.p ++ oc b (ocX b l q).1.1 (ocX b l q).1.2 ∧ (0 ≤ (ocX b l q).1.1 ∧ (ocX b l q).1.1 ≤ 2147483647 ∧ 0 ≤ (ocX b l q).1.2 ∧ (ocX b l q).1.2 < 9223372036854775808) ∧ (b = false → (ocX b l q).1.1 = 0 ∧ (ocX b l q).1.2 = 0) := by
 cases b with
 | true =>
  have h1 := condX_dec (show (condX l q).2.e = 0 from h)
  exact ⟨h1.1, h1.2.1, h1.2.2, fun e => by cases e⟩
 | false => exact ⟨h, by show _ = _ ++ []; rw [List.append_nil]; rfl, ⟨Int.le_refl 0, show (0 : Int) ≤ _ by decide, Int.le_refl 0, show (0 : Int) < _ by decide⟩, fun _ => ⟨rfl, rfl⟩⟩
theorem opX_dec (h : (opX l q).2.e = 0) : q.e = 0 ∧ l.take (opX l q).2.p = l.take q.p ++ encO (opX l q).1 ∧ GdO (opX l q).1 := by
 unfold opX at h ⊢
 simp only at h ⊢; have h4 := condX_dec h; have h3 := otP_dec h4.1; have h2 := textP_dec h3.1; have h1 := mkX_dec h2.1; refine ⟨h1.1, ?_, ⟨h2.2.2, h3.2.2.1, fun e => h3.2.2.2 (by simpa using e), h4.2.2.1, h4.2.2.2.1, h4.2.2.2.2.1, h4.2.2.2.2.2⟩⟩; rw [h4.2.1, h3.2.1, h2.2.1, h1.2]
 unfold encO ot
 cases (mkX l q).1 <;> simp
theorem opsX_dec (l : List UInt8) : ∀ (n : Nat) (q : Ps), (opsX n l q).2.e = 0 → q.e = 0 ∧ l.take (opsX n l q).2.p = l.take q.p ++ opsB (opsX n l q).1 ∧ (opsX n l q).1.length = n ∧ ∀ t ∈ (opsX n l q).1, GdO t
 | 0, q, h => ⟨h, by simp [opsX, opsB], rfl, fun t ht => by simp [opsX] at ht⟩
 | n + 1, q, h => by
  unfold opsX at h ⊢
  by_cases he : q.e ≠ 0
  ·
   rw [if_pos he] at h; exact absurd h he
  ·
   rw [if_neg he] at h ⊢; simp only at h ⊢; have h2 := opsX_dec l n _ h; have h1 := opX_dec h2.1; refine ⟨h1.1, ?_, by rw [List.length_cons, h2.2.2.1], fun t ht => ?_⟩
   ·
    rw [h2.2.1, h1.2.1]
    unfold opsB
    rw [List.map_cons, List.flatten_cons, List.append_assoc]
   ·
    rcases List.mem_cons.1 ht with rfl | ht
    ·
     exact h1.2.2
    ·
     exact h2.2.2.2 t ht
theorem ooX_dec {b : Bool} (h : (ooX b l q).2.e = 0) : q.e = 0 ∧ l.take (ooX b l q).2.p = l.take q.p ++ oo b (ooX b l q).1 ∧ (ooX b l q).1.length ≤ 16 ∧ (∀ t ∈ (ooX b l q).1, GdO t) ∧ (b = false → (ooX b l q).1 = []) := by
 cases b with
 | true =>
  have h' : (opsZ l q).2.e = 0 := h
  show q.e = 0 ∧ l.take (opsZ l q).2.p = l.take q.p ++ oo true (opsZ l q).1 ∧ (opsZ l q).1.length ≤ 16 ∧ (∀ t ∈ (opsZ l q).1, GdO t) ∧ _
  unfold opsZ at h' ⊢
  by_cases hn : 16 < (smX l q).1
  ·
   rw [if_pos hn] at h'; cases h'
  ·
   rw [if_neg hn] at h' ⊢; have h2 := opsX_dec l _ _ h'; have h1 := smX_dec h2.1; refine ⟨h1.1, ?_, by rw [h2.2.2.1]; omega, h2.2.2.2, fun e => by cases e⟩; rw [h2.2.1, h1.2.1]
   unfold oo
   rw [if_pos rfl, h2.2.2.1, Int.toNat_of_nonneg h1.2.2.1, List.append_assoc]
 | false => exact ⟨h, by show _ = _ ++ []; rw [List.append_nil]; rfl, Nat.zero_le _, fun t ht => (nomatch ht), fun _ => rfl⟩
theorem refQ_dec (k : Int) (l : List UInt8) (h : (refQ k l).2.e = 0) : l.take (refQ k l).2.p = bytesQ (refQ k l).1 ∧ GdQ (refQ k l).1 ∧ (refQ k l).1.k = k := by
 unfold refQ at h ⊢
 simp only at h ⊢; have h9 := osX_dec h; have h8 := osX_dec h9.1; have h7 := onP_dec h8.1; have h6 := ooX_dec h7.1; have h5 := ocX_dec h6.1; have h4 := otP_dec h5.1; have h3 := otP_dec h4.1; have h2 := otP_dec h3.1; have h1 := otP_dec h2.1; refine ⟨?_, ⟨h1.2.2.1, h1.2.2.2, h2.2.2.1, h2.2.2.2, h3.2.2.1, h3.2.2.2, h4.2.2.1, h4.2.2.2, h5.2.2.1.1, h5.2.2.1.2.1, h5.2.2.1.2.2.1, h5.2.2.1.2.2.2, h5.2.2.2, h6.2.2.1, h6.2.2.2.1, h6.2.2.2.2, h7.2.2.1.1, h7.2.2.1.2, h7.2.2.2, h8.2.2.1.1, h8.2.2.1.2, h8.2.2.2, h9.2.2.1.1, h9.2.2.1.2, h9.2.2.2⟩, trivial⟩
 unfold bytesQ
 simp only
 rw [h9.2.1, h8.2.1, h7.2.1, h6.2.1, h5.2.1, h4.2.1, h3.2.1, h2.2.1, h1.2.1]
 simp
end
theorem refq_code (k : Int) (l : List UInt8) : donQ k l = ((refQ k l).2.e == 0 && decide ((refQ k l).2.p = l.length)) ∧ (donQ k l = true → (rawQ k l).1 = (refQ k l).1) := by
 cases hd : donQ k l with
 | true =>
  obtain ⟨h1, h2, h0⟩ := rawQ_ok hd; have h3 := refQ_enc _ h2 []; rw [List.append_nil, h1, h0] at h3; rw [h3]
  exact ⟨by simp, fun _ => rfl⟩
 | false =>
  refine ⟨?_, fun h => by cases h⟩
  symm
  rw [Bool.and_eq_false_iff]
  by_cases he : (refQ k l).2.e = 0
  ·
   right
   refine decide_eq_false fun hp => ?_
   obtain ⟨h1, h2, h0⟩ := refQ_dec k l he; rw [hp, List.take_length] at h1; have h3 := (donQ_enc _ h2).2; rw [← h1, h0] at h3; rw [h3] at hd
   cases hd
  ·
   left
   simpa using he
section
variable {w w' w2 : World} {g : Nat} {A : Option Addr} {cap b off : Nat} {l : List UInt8} {p : Nat} {e : Int} {q : Ps}
theorem Byt.sub {k n : Nat} (h : Byt w A l.length cap b off l) (hk : k + n ≤ l.length) : Byt w (some ⟨b, off + k, none⟩) n (cap - k) b (off + k) ((l.drop k).take n) :=
 ⟨by rw [List.length_take, List.length_drop]; omega, by have := h.le; omega, Nat.le_trans (Nat.sub_le _ _) h.hmax, fun hn => ⟨rfl, (h.addr (by omega)).2⟩, fun j u hu => by
  rw [List.getElem?_take] at hu
  split at hu
  ·
   rw [List.getElem?_drop] at hu; have := h.cell (k + j) u hu
   rwa [← Nat.add_assoc] at this
  ·
   cases hu⟩
theorem nil_any2 (W : World) (a : Addr) : Byt W (some a) 0 0 0 0 [] := ⟨rfl, Nat.le_refl _, Nat.zero_le _, fun h => absurd h (by simp), fun j u hu => by simp at hu⟩
theorem xtext_any (h : Rr w g A cap b off l q.p q.e) (hl : l.length ≤ 1000000) (most : Nat) (hm : most ≤ 1000000) : Calls Tryz.prog 37 #[.pointer (some ⟨g, 0, none⟩), .int .i64 (most : Int)] w fun r w' => r = .returned (.string (textP most l q).1) ∧ Rr w' g A cap b off l (textP most l q).2.p (textP most l q).2.e ∧ Tg w w' g := by
 have c2 := h.c2; obtain ⟨P, E⟩ := q
 unfold textP
 simp only at h c2 ⊢
 by_cases he : E = 0
 ·
  subst he; rw [if_neg (by simp)]; have HL := Zh (look_any h hl)
  unfold lk at HL
  have HRI := Zh (fun hr => rt_in (l := l) (p := P) h.hp hr); have HRO := Zh (fun (hr : (rt (l.drop P)).2.2 = 0) => rt_ok (l := l.drop P) (n := (rt (l.drop P)).1) (k := (rt (l.drop P)).2.1) (by rw [← hr])); obtain ⟨⟨n, k, c⟩, hr⟩ : ∃ z, rt (l.drop P) = z := ⟨_, rfl⟩; rw [hr] at HL HRI HRO ⊢; simp only at HL HRI HRO ⊢; have HR := Zh h; clear h hr
  by_cases hc : c = 0
  ·
   subst hc; rw [if_neg (by simp)]; rw [if_pos rfl] at HL; have HP := HRI.out rfl; have HQ := (HRO.out rfl).2; clear HRI HRO
   by_cases h1 : l.length < P + k + n
   ·
    rw [if_pos h1]; have h1I : (n : Int) > (l.length : Int) - ((P + k : Nat) : Int) := by omega
    have i1 : wrap64 ((l.length : Int) - ((P + k : Nat) : Int)) = (l.length : Int) - ((P + k : Nat) : Int) := IntWalk.wrap64_in _ (by omega)
    go_enter Tryz.func37, Tryz.ntmps37
    go_wp2_with fail
    refine HL.out.mono ?_; rintro _ w1 ⟨rfl, hb⟩; have H1 := Zh hb; have HR1 := Zh (HR.out.keep hb); have d0 := HR1.out.c0; have d2 := HR1.out.c2; have f2 := HR1.out.bx.frozen 2; clear hb
    go_wp2
    go_ret
    exact ⟨rfl, HR1.out.setE 14, (Tg.of H1.out).set 2 _⟩
   ·
    rw [if_neg h1]; have h1I : ¬ (n : Int) > (l.length : Int) - ((P + k : Nat) : Int) := by omega
    have i1 : wrap64 ((l.length : Int) - ((P + k : Nat) : Int)) = (l.length : Int) - ((P + k : Nat) : Int) := IntWalk.wrap64_in _ (by omega)
    by_cases h2 : most < n
    ·
     rw [if_pos h2]; have h2I : (n : Int) > (most : Int) := by omega
     go_enter Tryz.func37, Tryz.ntmps37
     go_wp2_with fail
     refine HL.out.mono ?_; rintro _ w1 ⟨rfl, hb⟩; have H1 := Zh hb; have HR1 := Zh (HR.out.keep hb); have d0 := HR1.out.c0; have d2 := HR1.out.c2; have f2 := HR1.out.bx.frozen 2; clear hb
     go_wp2
     go_ret
     exact ⟨rfl, HR1.out.setE 2, (Tg.of H1.out).set 2 _⟩
    ·
     rw [if_neg h2]; have h2I : ¬ (n : Int) > (most : Int) := by omega
     have i2 : wrap64 (((P + k : Nat) : Int) + (n : Int)) = ((P + k + n : Nat) : Int) := by rw [IntWalk.wrap64_in _ (by omega)]; omega
     go_enter Tryz.func37, Tryz.ntmps37
     go_wp2_with fail
     refine HL.out.mono ?_; rintro _ w1 ⟨rfl, hb⟩; have H1 := Zh hb; have HR1 := Zh (HR.out.keep hb); have d0 := HR1.out.c0; have d1 := HR1.out.c1; have f1 := HR1.out.bx.frozen 1; clear hb; obtain ⟨rfl, hbl⟩ := HR1.out.byt.addr (by omega); have hcap := HR1.out.byt.le; have ev : ((P + k + n : Nat) : Int) = (P : Int) + (k : Int) + (n : Int) := by omega
     have HRS := HR1.out.setP (p' := P + k + n) (by omega); rw [ev] at HRS; have hb1 : Blk (w1.setCell ⟨g, 1, none⟩ (.int .i64 ((P : Int) + (k : Int) + (n : Int)))) g 66 #[.slice (some ⟨b, off, none⟩) l.length cap, .int .i64 ((P : Int) + (k : Int) + (n : Int)), .int .i64 0] := by have := HRS.bx; rwa [ev] at this
     have g0 : (w1.setCell ⟨g, 1, none⟩ (.int .i64 ((P : Int) + (k : Int) + (n : Int)))).cell? ⟨g, 0, none⟩ = some (.slice (some ⟨b, off, none⟩) l.length cap) := hb1.cell 0; have g1 : (w1.setCell ⟨g, 1, none⟩ (.int .i64 ((P : Int) + (k : Int) + (n : Int)))).cell? ⟨g, 1, none⟩ = some (.int .i64 ((P : Int) + (k : Int) + (n : Int))) := hb1.cell 1; have kc0 := byt_text ((HRS.byt.below (Below.refl _ _).drew).sub (k := P + k) (n := n) (by omega)); have kz := byt_text (nil_any2 (w1.setCell ⟨g, 1, none⟩ (.int .i64 ((P : Int) + (k : Int) + (n : Int)))).drew ⟨b, off, none⟩); have v0 : ((w1.setCell ⟨g, 1, none⟩ (.int .i64 ((P : Int) + (k : Int) + (n : Int)))).drew).cell? ⟨g, 0, none⟩ = some (.slice (some ⟨b, off, none⟩) l.length cap) := hb1.drew.cell 0; have v1 : ((w1.setCell ⟨g, 1, none⟩ (.int .i64 ((P : Int) + (k : Int) + (n : Int)))).drew).cell? ⟨g, 1, none⟩ = some (.int .i64 ((P : Int) + (k : Int) + (n : Int))) := hb1.drew.cell 1; have HZ := Zh HRS; have HT := Zh ((Tg.of H1.out : Tg w w1 g).set 1 (.int .i64 ((P : Int) + (k : Int) + (n : Int)))); have m1 : (0 : Int) ≤ (P : Int) + (k : Int) := by omega
     have m2 : (P : Int) + (k : Int) ≤ (P : Int) + (k : Int) + (n : Int) := by omega
     have m3 : (P : Int) + (k : Int) + (n : Int) ≤ (cap : Int) := by omega
     have m4 : ((P : Int) + (k : Int)).toNat = P + k := by omega
     have m5 : ((P : Int) + (k : Int) + (n : Int) - ((P : Int) + (k : Int))).toNat = n := by omega
     have m6 : ((P : Int) + (k : Int) + (n : Int)).toNat = P + k + n := by omega
     clear HRS hb1 ev; have HE : ∀ (AD : Option Addr), AD = (if cap = P + k then some ⟨b, off, none⟩ else some ⟨b, off + (P + k), none⟩) → (convert 27 9 (.slice AD n (cap - (P + k)))).run Tryz.prog (w1.setCell ⟨g, 1, none⟩ (.int .i64 ((P : Int) + (k : Int) + (n : Int)))).drew = .ok (.string ⟨((l.drop (P + k)).take n).toArray⟩) (w1.setCell ⟨g, 1, none⟩ (.int .i64 ((P : Int) + (k : Int) + (n : Int)))).drew := by
      rintro _ rfl
      by_cases hcp : cap = P + k
      ·
       rw [if_pos hcp]; obtain rfl : n = 0 := by omega
       rw [show cap - (P + k) = 0 by omega, List.take_zero]
       exact kz
      ·
       rw [if_neg hcp]
       exact kc0
     have kc := HE _ rfl; clear HE kz kc0
     go_wp2
     obtain ⟨AD, hAD⟩ : ∃ AD, (if cap = P + k then some (⟨b, off, none⟩ : Addr) else some ⟨b, off + (P + k), none⟩) = AD := ⟨_, rfl⟩; rw [hAD] at kc
     go_region_held3 (fun W => W.cell? ⟨g, 0, none⟩ = some (.slice (some ⟨b, off, none⟩) l.length cap) ∧ W.cell? ⟨g, 1, none⟩ = some (.int .i64 ((P : Int) + (k : Int) + (n : Int))) ∧ (convert 27 9 (.slice AD n (cap - (P + k)))).run Tryz.prog W = .ok (.string ⟨((l.drop (P + k)).take n).toArray⟩) W) (refine ⟨?_, ?_, ?_⟩ <;> assumption) (fail)
     go_wp2
     go_ret
     exact ⟨rfl, HZ.out.keep (by repeat (first | exact Below.refl _ _ | refine below_drewN ?_ _)), HT.out.trans (Tg.of (by repeat (first | exact Below.refl _ _ | refine below_drewN ?_ _)))⟩
  ·
   rw [if_pos hc]; rw [if_neg hc] at HL; have hb : (c != 0) = true := by simpa using hc
   clear hc
   go_enter Tryz.func37, Tryz.ntmps37
   go_wp2_with fail
   refine HL.out.mono ?_; rintro _ w1 ⟨rfl, hb⟩; have H1 := Zh hb; have HR1 := Zh (HR.out.keep hb); have d2 := HR1.out.c2; have f2 := HR1.out.bx.frozen 2; clear hb
   go_wp2
   go_ret
   exact ⟨rfl, HR1.out.setE c, (Tg.of H1.out).set 2 _⟩
 ·
  rw [if_pos he]; have HR := Zh h; have hb : (E != 0) = true := by simpa using he
  clear h he
  go_enter Tryz.func37, Tryz.ntmps37
  go_wp2
  go_ret
  exact ⟨rfl, HR.out, Tg.refl _ _⟩
theorem xsmall_any (h : Rr w g A cap b off l q.p q.e) (hl : l.length ≤ 1000000) : Calls Tryz.prog 39 #[.pointer (some ⟨g, 0, none⟩)] w fun r w' => r = .returned (.int .i64 (if 2147483647 < (numP l q).1 then 0 else (numP l q).1)) ∧ Rr w' g A cap b off l (numP l q).2.p (if 2147483647 < (numP l q).1 then 1 else (numP l q).2.e) ∧ Tg w w' g := by
 have HN := Zh (xnum_any h hl); have hn0 := numP_nat l q; have hn1 := numP_lt l q; obtain ⟨⟨n, q2⟩, hr⟩ : ∃ z, numP l q = z := ⟨_, rfl⟩; rw [hr] at HN hn0 hn1 ⊢; simp only at HN hn0 hn1 ⊢; clear h hr
 by_cases hn : 2147483647 < n
 ·
  rw [if_pos hn, if_pos hn]
  go_enter Tryz.func39, Tryz.ntmps39
  go_wp2_with fail
  refine HN.out.mono ?_; rintro _ w1 ⟨rfl, h1, h2⟩; have HR1 := Zh h1; have H1 := Zh h2; have d2 := HR1.out.c2; have f2 := HR1.out.bx.frozen 2; clear h1 h2
  go_wp2
  go_ret
  exact ⟨rfl, HR1.out.setE 1, H1.out.set 2 _⟩
 ·
  rw [if_neg hn, if_neg hn]; have i1 : wrap64 n = n := IntWalk.wrap64_in _ (by omega)
  go_enter Tryz.func39, Tryz.ntmps39
  go_wp2_with fail
  refine HN.out.mono ?_; rintro _ w1 ⟨rfl, h1, h2⟩; have HR1 := Zh h1; have H1 := Zh h2; clear h1 h2
  go_wp2
  go_ret
  exact ⟨rfl, HR1.out, H1.out⟩
theorem xmark_any (h : Rr w g A cap b off l q.p q.e) (hl : l.length ≤ 1000000) : Calls Tryz.prog 40 #[.pointer (some ⟨g, 0, none⟩)] w fun r w' => r = .returned (.bool ((numP l q).1 == 1)) ∧ Rr w' g A cap b off l (numP l q).2.p (mkE (numP l q).1 (numP l q).2.e) ∧ Tg w w' g := by
 have HN := Zh (xnum_any h hl)
 unfold mkE
 obtain ⟨⟨n, p2, e2⟩, hr⟩ : ∃ z, numP l q = z := ⟨_, rfl⟩; rw [hr] at HN ⊢; simp only at HN ⊢; obtain ⟨bq, hbq⟩ : ∃ b, (n == 1) = b := ⟨_, rfl⟩; rw [hbq]; clear h hr
 by_cases he : e2 = 0
 ·
  subst he
  by_cases hn : 1 < n
  ·
   rw [if_pos ⟨rfl, hn⟩]
   go_enter Tryz.func40, Tryz.ntmps40
   go_wp2_with fail
   refine HN.out.mono ?_; rintro _ w1 ⟨rfl, h1, h2⟩; have HR1 := Zh h1; have H1 := Zh h2; have d2 := HR1.out.c2; have f2 := HR1.out.bx.frozen 2; clear h1 h2
   go_wp2
   go_ret
   exact ⟨rfl, HR1.out.setE 1, H1.out.set 2 _⟩
  ·
   rw [if_neg (fun h => hn h.2)]
   go_enter Tryz.func40, Tryz.ntmps40
   go_wp2_with fail
   refine HN.out.mono ?_; rintro _ w1 ⟨rfl, h1, h2⟩; have HR1 := Zh h1; have H1 := Zh h2; have d2 := HR1.out.c2; clear h1 h2
   go_wp2
   go_ret
   exact ⟨rfl, HR1.out, H1.out⟩
 ·
  rw [if_neg (fun h => he h.1)]; have hb : (e2 == 0) = false := by simpa using he
  clear he
  go_enter Tryz.func40, Tryz.ntmps40
  go_wp2_with fail
  refine HN.out.mono ?_; rintro _ w1 ⟨rfl, h1, h2⟩; have HR1 := Zh h1; have H1 := Zh h2; have d2 := HR1.out.c2; clear h1 h2
  go_wp2
  go_ret
  exact ⟨rfl, HR1.out, H1.out⟩
end
theorem rwrites_any (k : Int) (w : World) : Calls Tryz.prog 18 #[.int .i64 k] w fun e w' => e = .returned (.bool (writesB k)) ∧ w' = w := by
 by_cases h : k = 2 ∨ k = 3 ∨ k = 4 ∨ k = 5 ∨ k = 7
 ·
  rcases h with rfl | rfl | rfl | rfl | rfl
  all_goals
   go_enter Tryz.func18, Tryz.ntmps18
   go_wp2
   go_ret
   exact ⟨rfl, rfl⟩
 ·
  have h2 : (k == 2) = false := by simp; omega
  have h3 : (k == 3) = false := by simp; omega
  have h4 : (k == 4) = false := by simp; omega
  have h5 : (k == 5) = false := by simp; omega
  have h7 : (k == 7) = false := by simp; omega
  have H0 := Zh (show writesB k = false from decide_eq_false h); clear h
  go_enter Tryz.func18, Tryz.ntmps18
  go_wp2
  go_ret
  exact ⟨by rw [H0.out]; rfl, rfl⟩
structure Br (w0 wr : World) (g X : Nat) (t : TypeId) (cs : Array Value) (A : Option Addr) (cap b off : Nat) (l : List UInt8) (q : Ps) : Prop where
 rr : Rr wr g A cap b off l q.p q.e
 bx : Blk wr X t cs
 tg : Tg w0 wr g
 hX : w0.heap.size ≤ X
 hg : g < w0.heap.size
 hb : 0 < l.length → b < w0.heap.size
section
variable {w0 wr w' : World} {g X : Nat} {t : TypeId} {cs : Array Value} {A : Option Addr} {cap b off : Nat} {l : List UInt8} {q q' : Ps} {p : Nat} {e : Int}
theorem Byt.far (h : Byt wr A l.length cap b off l) (a : Addr) (hn : 0 < l.length → b ≠ a.block) (u : Value) : Byt (wr.setCell a u) A l.length cap b off l :=
 ⟨h.hlen, h.le, h.hmax, fun hl => ⟨(h.addr hl).1, by simpa [World.setCell] using (h.addr hl).2⟩, fun j u hu => by
  have hl : 0 < l.length := by have := (List.getElem?_eq_some_iff.1 hu).1; omega
  exact (World.cell?_of_block (a := ⟨b, off + j, none⟩) (Below.heap_setCell _ _ _ _ (hn hl))).trans (h.cell j u hu)⟩
theorem Rr.far (h : Rr wr g A cap b off l p e) (i : Nat) (hg : g ≠ X) (hb : 0 < l.length → b ≠ X) (u : Value) : Rr (wr.setCell ⟨X, i, none⟩ u) g A cap b off l p e :=
 ⟨h.bx.far (p := ⟨X, i, none⟩) (by show g ≠ X; exact hg) u, h.byt.far ⟨X, i, none⟩ hb u, h.ne, h.hp⟩
theorem Tg.far (h : Tg w0 wr g) (a : Addr) (ha : w0.heap.size ≤ a.block) (u : Value) : Tg w0 (wr.setCell a u) g :=
 ⟨h.os, h.tape, h.output, by simpa [World.setCell] using h.size, fun j hj hn => (Below.heap_setCell wr a u j (by omega)).trans (h.block j hj hn)⟩
theorem Br.start (h : Rr w0 g A cap b off l q.p q.e) (t : TypeId) (cs : Array Value) : Br w0 (w0.alloc (.cells cs t)) g w0.heap.size t cs A cap b off l q :=
 have hb : Below w0.heap.size w0 (w0.alloc (.cells cs t)) := (Below.refl _ _).alloc (Nat.le_refl _) _
 ⟨h.keep hb, Blk.new _ _ _, Tg.of hb, Nat.le_refl _, h.bx.lt, fun hl => (h.byt.addr hl).2⟩
theorem Br.call (h : Br w0 wr g X t cs A cap b off l q) (hr : Rr w' g A cap b off l q'.p q'.e) (ht : Tg wr w' g) : Br w0 w' g X t cs A cap b off l q' := by
 have h1 := h.hX; have h2 := h.hg
 exact ⟨hr, (ht.block X h.bx.lt (fun e => by cases e; omega)).trans h.bx, h.tg.trans ht, h1, h2, h.hb⟩
theorem Br.set (h : Br w0 wr g X t cs A cap b off l q) (i : Nat) (u : Value) : Br w0 (wr.setCell ⟨X, i, none⟩ u) g X t (cs.setIfInBounds i u) A cap b off l q := by
 have h1 := h.hX; have h2 := h.hg
 exact ⟨h.rr.far i (by omega) (fun hl => by have := h.hb hl; omega) u, h.bx.set_ i u, h.tg.far ⟨X, i, none⟩ h1 u, h1, h2, h.hb⟩
theorem rcond_out {cs : Array Value} (hc : cs.size = 2) {R : Ending → World → Prop} {a : Act} {w : World} {g : Nat} (h2 : a.tmps.getD 2 undef = .pointer (some ⟨g, 0, none⟩)) (hd : a.defers = []) (hg : Blk w g 23 cs)
  (hR : R (.returned (.agg cs)) w) : bodyPost Tryz.prog Tryz.f38 R .ret a w :=
 bodyPost_ret (results_cell0 (fn := Tryz.f38) rfl a.tmps Tryz.prog w g 23 cs (0, 0) _ h2 hg Tryz.underlying23 (by rw [hc]; rfl)) hd hR
theorem rcond_any (h : Rr w0 g A cap b off l q.p q.e) (hl : l.length ≤ 1000000) : Calls Tryz.prog 38 #[.pointer (some ⟨g, 0, none⟩)] w0 fun r w' => r = .returned (.agg #[.int .i64 (condX l q).1.1, .int .i64 (condX l q).1.2]) ∧ Rr w' g A cap b off l (condX l q).2.p (condX l q).2.e ∧ Tg w0 w' g := by
 have HX0 := Zh (Br.start h 23 #[.int .i64 0, .int .i64 0]); have eC : condX l q = (((smX l q).1, (numP l (smX l q).2).1), (numP l (smX l q).2).2) := rfl; have HF1 := Zh (fun W (h : Rr W g A cap b off l q.p q.e) => (show Calls _ _ _ W fun r w' => r = .returned (.int .i64 (smX l q).1) ∧ Rr w' g A cap b off l (smX l q).2.p (smX l q).2.e ∧ Tg W w' g from xsmall_any h hl)); obtain ⟨⟨k1, q1⟩, e1⟩ : ∃ z, smX l q = z := ⟨_, rfl⟩; rw [e1] at eC HF1; simp only at eC HF1; have HF2 := Zh (fun W (h : Rr W g A cap b off l q1.p q1.e) => xnum_any h hl); obtain ⟨⟨v2, q2⟩, e2⟩ : ∃ z, numP l q1 = z := ⟨_, rfl⟩; rw [e2] at eC HF2; simp only at eC HF2; rw [eC]; clear e1 e2 eC h
 go_enter Tryz.func38, Tryz.ntmps38
 go_wp2_with fail
 refine (HF1.out _ HX0.out.rr).mono ?_; rintro _ w1 ⟨rfl, h1, h2⟩; have HX1 := Zh (HX0.out.call h1 h2); clear h1 h2
 go_wp2_with fail
 refine (HF2.out _ HX1.out.rr).mono ?_; rintro _ w2 ⟨rfl, h1, h2⟩; have HX2 := Zh (HX1.out.call h1 h2); have b0 := HX2.out.bx.cell 0; have b1 := HX2.out.bx.cell 1; have f0 := HX2.out.bx.frozen 0; have f1 := HX2.out.bx.frozen 1; have HX3 := Zh (HX2.out.set 0 (.int .i64 k1)); have HX4 := Zh (HX3.out.set 1 (.int .i64 v2)); clear h1 h2
 go_wp2
 exact rcond_out rfl (g := w0.heap.size) rfl rfl HX4.out.bx ⟨rfl, HX4.out.rr, HX4.out.tg⟩
end
end Go.Proofs.YtphijnkiiokieaaGreatDoor
