/- The names: Name of ident and of the document. -/
import Derived.Test.YtphijnkiiokieaaGreatDoorZae
import Derived.Test.YtphijnkiiokieaaGreatDoorZaa
import Derived.Test.YtphijnkiiokieaaGreatDoorZab
import Derived.WalkKit
import Derived.Lib.Hide
import Derived.Deep.Light
import Derived.Handy
/- Requests: what one is, its bytes, what is read (maths). -/
namespace Go.Proofs.YtphijnkiiokieaaGreatDoor
open Go.RowKit
open Go.Lib hiding intOf
set_option linter.unusedVariables false
set_option linter.unusedSimpArgs false
set_option maxRecDepth 20000
structure Opn where
  d : Bool
  u : ByteArray
  c : ByteArray
  k : Int
  v : Int
structure Rq where
  k : Int
  t : ByteArray
  co : ByteArray
  u : ByteArray
  c : ByteArray
  ck : Int
  cv : Int
  ops : List Opn
  tok : Int
  mo : Int
  ti : Int
def bE : ByteArray := ⟨#[]⟩
def rqZ : Rq := ⟨0, bE, bE, bE, bE, 0, 0, [], 0, 0, 0⟩
/- What a request of a kind has. -/
def hT (k : Int) : Bool := decide (k = 1)
def hC (k : Int) : Bool := decide (2 ≤ k ∧ k ≤ 9)
def hU (k : Int) : Bool := decide (4 ≤ k ∧ k ≤ 6)
def hK (k : Int) : Bool := decide (k = 4)
def hN (k : Int) : Bool := decide (4 ≤ k ∧ k ≤ 5)
def hO (k : Int) : Bool := decide (k = 7)
def hW (k : Int) : Bool := decide (8 ≤ k ∧ k ≤ 9)
def hM (k : Int) : Bool := decide (k = 8)
def hI (k : Int) : Bool := decide (k = 9)
/- Bytes. -/
def encC (k v : Int) : List UInt8 := encz k ++ encz v
def encO (o : Opn) : List UInt8 := encz (b01 o.d) ++ enct o.u ++ (if o.d = true then [] else enct o.c) ++ encC o.k o.v
def opsB (l : List Opn) : List UInt8 := (l.map encO).flatten
def ot (b : Bool) (s : ByteArray) : List UInt8 := if b = true then enct s else []
def on (b : Bool) (n : Int) : List UInt8 := if b = true then encz n else []
def oc (b : Bool) (k v : Int) : List UInt8 := if b = true then encC k v else []
def oo (b : Bool) (l : List Opn) : List UInt8 := if b = true then encz (l.length : Int) ++ opsB l else []
def bytesQ (q : Rq) : List UInt8 := ot (hT q.k) q.t ++ ot (hC q.k) q.co ++ ot (hU q.k) q.u ++ ot (hK q.k) q.c ++ oc (hN q.k) q.ck q.cv ++ oo (hO q.k) q.ops ++ on (hW q.k) q.tok ++ on (hM q.k) q.mo ++ on (hI q.k) q.ti
/- What is read. -/
def condP (l : List UInt8) (q : Ps) (x : Bool) : (Int × Int) × Ps × Bool :=
  (((belowP 2147483647 l q x).1, (numP l (belowP 2147483647 l q x).2.1).1), (numP l (belowP 2147483647 l q x).2.1).2, (belowP 2147483647 l q x).2.2)
def otP (b : Bool) (l : List UInt8) (q : Ps) : ByteArray × Ps := if b = true then textP 20000 l q else (bE, q)
def onP (b : Bool) (l : List UInt8) (q : Ps) : Int × Ps := if b = true then numP l q else (0, q)
def obP (b : Bool) (l : List UInt8) (q : Ps) (x : Bool) : Int × Ps × Bool := if b = true then belowP 2147483647 l q x else (0, q, x)
def ocP (b : Bool) (l : List UInt8) (q : Ps) (x : Bool) : (Int × Int) × Ps × Bool := if b = true then condP l q x else ((0, 0), q, x)
def opP (l : List UInt8) (q : Ps) (x : Bool) : Opn × Ps × Bool :=
  let a1 := markP l q x
  let a2 := textP 20000 l a1.2.1
  let a3 := otP (!a1.1) l a2.2
  let a4 := condP l a3.2 a1.2.2
  (⟨a1.1, a2.1, a3.1, a4.1.1, a4.1.2⟩, a4.2.1, a4.2.2)
def opsP : Nat → List UInt8 → Ps → Bool → List Opn × Ps × Bool
  | 0, _, q, x => ([], q, x)
  | n + 1, l, q, x => ((opP l q x).1 :: (opsP n l (opP l q x).2.1 (opP l q x).2.2).1, (opsP n l (opP l q x).2.1 (opP l q x).2.2).2)
def opsR (l : List UInt8) (q : Ps) (x : Bool) : List Opn × Ps × Bool := opsP (belowP 16 l q x).1.toNat l (belowP 16 l q x).2.1 (belowP 16 l q x).2.2
def ooP (b : Bool) (l : List UInt8) (q : Ps) (x : Bool) : List Opn × Ps × Bool := if b = true then opsR l q x else ([], q, x)
def rawQ (k : Int) (l : List UInt8) : Rq × Ps × Bool :=
  let a1 := otP (hT k) l ⟨0, 0⟩
  let a2 := otP (hC k) l a1.2
  let a3 := otP (hU k) l a2.2
  let a4 := otP (hK k) l a3.2
  let a5 := ocP (hN k) l a4.2 false
  let a6 := ooP (hO k) l a5.2.1 a5.2.2
  let a7 := onP (hW k) l a6.2.1
  let a8 := obP (hM k) l a7.2 a6.2.2
  let a9 := obP (hI k) l a8.2.1 a8.2.2
  (⟨k, a1.1, a2.1, a3.1, a4.1, a5.1.1, a5.1.2, a6.1, a7.1, a8.1, a9.1⟩, a9.2.1, a9.2.2)
/- What can be laid so. -/
structure GdO (o : Opn) : Prop where
  u : o.u.size ≤ 20000
  c : o.c.size ≤ 20000
  z : o.d = true → o.c = bE
  k0 : 0 ≤ o.k
  k : o.k ≤ 2147483647
  v0 : 0 ≤ o.v
  v : o.v < 9223372036854775808
structure GdQ (q : Rq) : Prop where
  t : q.t.size ≤ 20000
  zt : hT q.k = false → q.t = bE
  co : q.co.size ≤ 20000
  zco : hC q.k = false → q.co = bE
  u : q.u.size ≤ 20000
  zu : hU q.k = false → q.u = bE
  c : q.c.size ≤ 20000
  zc : hK q.k = false → q.c = bE
  ck0 : 0 ≤ q.ck
  ck : q.ck ≤ 2147483647
  cv0 : 0 ≤ q.cv
  cv : q.cv < 9223372036854775808
  zn : hN q.k = false → q.ck = 0 ∧ q.cv = 0
  n : q.ops.length ≤ 16
  ops : ∀ o ∈ q.ops, GdO o
  zo : hO q.k = false → q.ops = []
  w0 : 0 ≤ q.tok
  w : q.tok < 9223372036854775808
  zw : hW q.k = false → q.tok = 0
  m0 : 0 ≤ q.mo
  m : q.mo ≤ 2147483647
  zm : hM q.k = false → q.mo = 0
  i0 : 0 ≤ q.ti
  i : q.ti ≤ 2147483647
  zi : hI q.k = false → q.ti = 0
section
variable {l R : List UInt8} {p : Nat}
theorem condP_enc {k v : Int} {x : Bool} (h : l.drop p = encC k v ++ R) (h0 : 0 ≤ k) (h1 : k ≤ 2147483647) (h2 : 0 ≤ v) (h3 : v < 9223372036854775808) : condP l ⟨p, 0⟩ x = ((k, v), ⟨p + (encC k v).length, 0⟩, x) := by
  have e1 : l.drop p = encz k ++ (encz v ++ R) := by rw [h]; unfold encC; rw [List.append_assoc]
  have e2 := drop_step e1
  unfold condP
  rw [belowP_enc e1 h0 h1 (by decide)]
  simp only
  rw [numP_enc e2 h2 h3]
  simp only
  unfold encC
  rw [List.length_append, Nat.add_assoc]
theorem otP_enc {b : Bool} {t : ByteArray} (h : l.drop p = ot b t ++ R) (hs : t.size ≤ 20000) (hz : b = false → t = bE) : otP b l ⟨p, 0⟩ = (t, ⟨p + (ot b t).length, 0⟩) := by
  cases b with
  | true => unfold otP; rw [if_pos rfl]; exact textP_enc h hs
  | false => rw [hz rfl]; rfl
theorem onP_enc {b : Bool} {n : Int} (h : l.drop p = on b n ++ R) (h0 : 0 ≤ n) (h1 : n < 9223372036854775808) (hz : b = false → n = 0) : onP b l ⟨p, 0⟩ = (n, ⟨p + (on b n).length, 0⟩) := by
  cases b with
  | true => unfold onP; rw [if_pos rfl]; exact numP_enc h h0 h1
  | false => rw [hz rfl]; rfl
theorem obP_enc {b : Bool} {n : Int} {x : Bool} (h : l.drop p = on b n ++ R) (h0 : 0 ≤ n) (h1 : n ≤ 2147483647) (hz : b = false → n = 0) : obP b l ⟨p, 0⟩ x = (n, ⟨p + (on b n).length, 0⟩, x) := by
  cases b with
  | true => unfold obP; rw [if_pos rfl]; exact belowP_enc h h0 h1 (by decide)
  | false => rw [hz rfl]; rfl
theorem ocP_enc {b : Bool} {k v : Int} {x : Bool} (h : l.drop p = oc b k v ++ R) (h0 : 0 ≤ k) (h1 : k ≤ 2147483647) (h2 : 0 ≤ v) (h3 : v < 9223372036854775808) (hz : b = false → k = 0 ∧ v = 0) : ocP b l ⟨p, 0⟩ x = ((k, v), ⟨p + (oc b k v).length, 0⟩, x) := by
  cases b with
  | true => unfold ocP; rw [if_pos rfl]; exact condP_enc h h0 h1 h2 h3
  | false => rw [(hz rfl).1, (hz rfl).2]; rfl
theorem opP_enc {o : Opn} {x : Bool} (h : l.drop p = encO o ++ R) (g : GdO o) : opP l ⟨p, 0⟩ x = (o, ⟨p + (encO o).length, 0⟩, x) := by
  obtain ⟨d, u, c, k, v⟩ := o
  have eo : encO ⟨d, u, c, k, v⟩ = encz (b01 d) ++ (enct u ++ (ot (!d) c ++ encC k v)) := by unfold encO ot; cases d <;> simp
  have h1 : l.drop p = encz (b01 d) ++ (enct u ++ (ot (!d) c ++ (encC k v ++ R))) := by rw [h, eo]; simp
  have h2 := drop_step h1
  have h3 := drop_step h2
  have h4 := drop_step h3
  unfold opP
  simp only
  rw [markP_enc h1]
  simp only
  rw [textP_enc h2 g.u]
  simp only
  rw [otP_enc h3 g.c (fun e => g.z (by simpa using e))]
  simp only
  rw [condP_enc h4 g.k0 g.k g.v0 g.v]
  simp only
  rw [eo]
  simp only [List.length_append, Nat.add_assoc]
theorem opsP_enc : ∀ (xs : List Opn) (p : Nat) (x : Bool), l.drop p = opsB xs ++ R → (∀ t ∈ xs, GdO t) → opsP xs.length l ⟨p, 0⟩ x = (xs, ⟨p + (opsB xs).length, 0⟩, x)
  | [], p, x, h, _ => by simp [opsP, opsB]
  | t :: xs, p, x, h, g => by
    have e : opsB (t :: xs) = encO t ++ opsB xs := by unfold opsB; simp
    have h1 : l.drop p = encO t ++ (opsB xs ++ R) := by rw [h, e, List.append_assoc]
    have h2 := opsP_enc xs (p + (encO t).length) x (drop_step h1) (fun s hs => g s (List.mem_cons_of_mem _ hs))
    show opsP (xs.length + 1) l ⟨p, 0⟩ x = _
    unfold opsP
    rw [opP_enc h1 (g t List.mem_cons_self)]
    simp only
    rw [h2]
    simp only
    rw [e, List.length_append, Nat.add_assoc]
theorem ooP_enc {b : Bool} {xs : List Opn} {x : Bool} (h : l.drop p = oo b xs ++ R) (hn : xs.length ≤ 16) (g : ∀ t ∈ xs, GdO t) (hz : b = false → xs = []) : ooP b l ⟨p, 0⟩ x = (xs, ⟨p + (oo b xs).length, 0⟩, x) := by
  cases b with
  | true =>
    have h1 : l.drop p = encz (xs.length : Int) ++ (opsB xs ++ R) := by rw [h]; unfold oo; rw [if_pos rfl, List.append_assoc]
    unfold ooP opsR
    rw [if_pos rfl, belowP_enc h1 (by omega) (by omega) (by decide)]
    simp only [Int.toNat_natCast]
    rw [opsP_enc xs _ x (drop_step h1) g]
    unfold oo
    rw [if_pos rfl, List.length_append, Nat.add_assoc]
  | false => rw [hz rfl]; rfl
theorem rawQ_enc (q : Rq) (g : GdQ q) (R : List UInt8) : rawQ q.k (bytesQ q ++ R) = (q, ⟨(bytesQ q).length, 0⟩, false) := by
  have h1 : (bytesQ q ++ R).drop 0 = ot (hT q.k) q.t ++ (ot (hC q.k) q.co ++ (ot (hU q.k) q.u ++ (ot (hK q.k) q.c ++ (oc (hN q.k) q.ck q.cv ++ (oo (hO q.k) q.ops ++ (on (hW q.k) q.tok ++ (on (hM q.k) q.mo ++ (on (hI q.k) q.ti ++ R)))))))) := by
    rw [List.drop_zero]; unfold bytesQ; simp only [List.append_assoc]
  have hlen : (bytesQ q).length = 0 + (ot (hT q.k) q.t).length + (ot (hC q.k) q.co).length + (ot (hU q.k) q.u).length + (ot (hK q.k) q.c).length + (oc (hN q.k) q.ck q.cv).length + (oo (hO q.k) q.ops).length + (on (hW q.k) q.tok).length + (on (hM q.k) q.mo).length + (on (hI q.k) q.ti).length := by
    unfold bytesQ; simp only [List.length_append]; omega
  obtain ⟨l, hl⟩ : ∃ l, bytesQ q ++ R = l := ⟨_, rfl⟩
  rw [hl] at h1 ⊢
  have h2 := drop_step h1
  have h3 := drop_step h2
  have h4 := drop_step h3
  have h5 := drop_step h4
  have h6 := drop_step h5
  have h7 := drop_step h6
  have h8 := drop_step h7
  have h9 := drop_step h8
  unfold rawQ
  simp only
  rw [otP_enc h1 g.t g.zt]
  simp only
  rw [otP_enc h2 g.co g.zco]
  simp only
  rw [otP_enc h3 g.u g.zu]
  simp only
  rw [otP_enc h4 g.c g.zc]
  simp only
  rw [ocP_enc h5 g.ck0 g.ck g.cv0 g.cv g.zn]
  simp only
  rw [ooP_enc h6 g.n g.ops g.zo]
  simp only
  rw [onP_enc h7 g.w0 g.w g.zw]
  simp only
  rw [obP_enc h8 g.m0 g.m g.zm]
  simp only
  rw [obP_enc h9 g.i0 g.i g.zi]
  simp only
  rw [hlen]
end
section
variable {l : List UInt8} {q : Ps} {x : Bool}
theorem belowP_le (m : Nat) (l : List UInt8) (q : Ps) (x : Bool) : (belowP m l q x).1 ≤ m := (belowP_nat m l q x).2
theorem condP_dec (h : (condP l q x).2.1.e = 0) (hx : (condP l q x).2.2 = false) : q.e = 0 ∧ x = false ∧ l.take (condP l q x).2.1.p = l.take q.p ++ encC (condP l q x).1.1 (condP l q x).1.2 ∧ (0 ≤ (condP l q x).1.1 ∧ (condP l q x).1.1 ≤ 2147483647 ∧ 0 ≤ (condP l q x).1.2 ∧ (condP l q x).1.2 < 9223372036854775808) := by
  unfold condP at h hx ⊢
  simp only at h hx ⊢
  have h2 := numP_dec h
  have h1 := belowP_dec h2.1 hx
  refine ⟨h1.1, h1.2.1, ?_, (belowP_nat _ _ _ _).1, by have := belowP_le 2147483647 l q x; omega, numP_nat _ _, numP_lt _ _⟩
  rw [h2.2, h1.2.2]
  unfold encC
  rw [List.append_assoc]
theorem otP_dec {b : Bool} (h : (otP b l q).2.e = 0) : q.e = 0 ∧ l.take (otP b l q).2.p = l.take q.p ++ ot b (otP b l q).1 ∧ (otP b l q).1.size ≤ 20000 ∧ (b = false → (otP b l q).1 = bE) := by
  cases b with
  | true =>
    have h' : (textP 20000 l q).2.e = 0 := h
    have h1 := textP_dec h'
    exact ⟨h1.1, h1.2.1, h1.2.2, fun e => by cases e⟩
  | false => exact ⟨h, by show _ = _ ++ []; rw [List.append_nil]; rfl, Nat.zero_le _, fun _ => rfl⟩
theorem onP_dec {b : Bool} (h : (onP b l q).2.e = 0) : q.e = 0 ∧ l.take (onP b l q).2.p = l.take q.p ++ on b (onP b l q).1 ∧ (0 ≤ (onP b l q).1 ∧ (onP b l q).1 < 9223372036854775808) ∧ (b = false → (onP b l q).1 = 0) := by
  cases b with
  | true =>
    have h' : (numP l q).2.e = 0 := h
    have h1 := numP_dec h'
    exact ⟨h1.1, h1.2, ⟨numP_nat _ _, numP_lt _ _⟩, fun e => by cases e⟩
  | false => exact ⟨h, by show _ = _ ++ []; rw [List.append_nil]; rfl, ⟨Int.le_refl 0, show (0 : Int) < _ by decide⟩, fun _ => rfl⟩
theorem obP_dec {b : Bool} (h : (obP b l q x).2.1.e = 0) (hx : (obP b l q x).2.2 = false) : q.e = 0 ∧ x = false ∧ l.take (obP b l q x).2.1.p = l.take q.p ++ on b (obP b l q x).1 ∧ (0 ≤ (obP b l q x).1 ∧ (obP b l q x).1 ≤ 2147483647) ∧ (b = false → (obP b l q x).1 = 0) := by
  cases b with
  | true =>
    have h' : (belowP 2147483647 l q x).2.1.e = 0 := h
    have hx' : (belowP 2147483647 l q x).2.2 = false := hx
    have h1 := belowP_dec h' hx'
    exact ⟨h1.1, h1.2.1, h1.2.2, ⟨(belowP_nat _ _ _ _).1, belowP_le 2147483647 l q x⟩, fun e => by cases e⟩
  | false => exact ⟨h, hx, by show _ = _ ++ []; rw [List.append_nil]; rfl, ⟨Int.le_refl 0, show (0 : Int) ≤ _ by decide⟩, fun _ => rfl⟩
theorem ocP_dec {b : Bool} (h : (ocP b l q x).2.1.e = 0) (hx : (ocP b l q x).2.2 = false) : q.e = 0 ∧ x = false ∧ l.take (ocP b l q x).2.1.p = l.take q.p ++ oc b (ocP b l q x).1.1 (ocP b l q x).1.2 ∧ (0 ≤ (ocP b l q x).1.1 ∧ (ocP b l q x).1.1 ≤ 2147483647 ∧ 0 ≤ (ocP b l q x).1.2 ∧ (ocP b l q x).1.2 < 9223372036854775808) ∧ (b = false → (ocP b l q x).1.1 = 0 ∧ (ocP b l q x).1.2 = 0) := by
  cases b with
  | true =>
    have h1 := condP_dec (show (condP l q x).2.1.e = 0 from h) (show (condP l q x).2.2 = false from hx)
    exact ⟨h1.1, h1.2.1, h1.2.2.1, h1.2.2.2, fun e => by cases e⟩
  | false => exact ⟨h, hx, by show _ = _ ++ []; rw [List.append_nil]; rfl, ⟨Int.le_refl 0, show (0 : Int) ≤ _ by decide, Int.le_refl 0, show (0 : Int) < _ by decide⟩, fun _ => ⟨rfl, rfl⟩⟩
theorem opP_dec (h : (opP l q x).2.1.e = 0) (hx : (opP l q x).2.2 = false) : q.e = 0 ∧ x = false ∧ l.take (opP l q x).2.1.p = l.take q.p ++ encO (opP l q x).1 ∧ GdO (opP l q x).1 := by
  unfold opP at h hx ⊢
  simp only at h hx ⊢
  have h4 := condP_dec h hx
  have h3 := otP_dec h4.1
  have h2 := textP_dec h3.1
  have h1 := markP_dec h2.1 h4.2.1
  refine ⟨h1.1, h1.2.1, ?_, ⟨h2.2.2, h3.2.2.1, fun e => h3.2.2.2 (by simpa using e), h4.2.2.2.1, h4.2.2.2.2.1, h4.2.2.2.2.2.1, h4.2.2.2.2.2.2⟩⟩
  rw [h4.2.2.1, h3.2.1, h2.2.1, h1.2.2]
  unfold encO ot
  cases (markP l q x).1 <;> simp
theorem opsP_dec (l : List UInt8) : ∀ (n : Nat) (q : Ps) (x : Bool), (opsP n l q x).2.1.e = 0 → (opsP n l q x).2.2 = false → q.e = 0 ∧ x = false ∧ l.take (opsP n l q x).2.1.p = l.take q.p ++ opsB (opsP n l q x).1 ∧ (opsP n l q x).1.length = n ∧ ∀ t ∈ (opsP n l q x).1, GdO t
  | 0, q, x, h, hx => ⟨h, hx, by simp [opsP, opsB], rfl, fun t ht => by simp [opsP] at ht⟩
  | n + 1, q, x, h, hx => by
    unfold opsP at h hx ⊢
    simp only at h hx ⊢
    have h2 := opsP_dec l n _ _ h hx
    have h1 := opP_dec h2.1 h2.2.1
    refine ⟨h1.1, h1.2.1, ?_, by rw [List.length_cons, h2.2.2.2.1], fun t ht => ?_⟩
    · rw [h2.2.2.1, h1.2.2.1]
      unfold opsB
      rw [List.map_cons, List.flatten_cons, List.append_assoc]
    · rcases List.mem_cons.1 ht with rfl | ht
      · exact h1.2.2.2
      · exact h2.2.2.2.2 t ht
theorem ooP_dec {b : Bool} (h : (ooP b l q x).2.1.e = 0) (hx : (ooP b l q x).2.2 = false) : q.e = 0 ∧ x = false ∧ l.take (ooP b l q x).2.1.p = l.take q.p ++ oo b (ooP b l q x).1 ∧ (ooP b l q x).1.length ≤ 16 ∧ (∀ t ∈ (ooP b l q x).1, GdO t) ∧ (b = false → (ooP b l q x).1 = []) := by
  cases b with
  | true =>
    have h' : (opsR l q x).2.1.e = 0 := h
    have hx' : (opsR l q x).2.2 = false := hx
    show q.e = 0 ∧ x = false ∧ l.take (opsR l q x).2.1.p = l.take q.p ++ oo true (opsR l q x).1 ∧ (opsR l q x).1.length ≤ 16 ∧ (∀ t ∈ (opsR l q x).1, GdO t) ∧ _
    unfold opsR at h' hx' ⊢
    have h2 := opsP_dec l _ _ _ h' hx'
    have h1 := belowP_dec h2.1 h2.2.1
    have hb := belowP_nat 16 l q x
    refine ⟨h1.1, h1.2.1, ?_, by rw [h2.2.2.2.1]; omega, h2.2.2.2.2, fun e => by cases e⟩
    rw [h2.2.2.1, h1.2.2]
    unfold oo
    rw [if_pos rfl, h2.2.2.2.1, Int.toNat_of_nonneg hb.1, List.append_assoc]
  | false => exact ⟨h, hx, by show _ = _ ++ []; rw [List.append_nil]; rfl, Nat.zero_le _, fun t ht => (nomatch ht), fun _ => rfl⟩
theorem rawQ_dec (k : Int) (l : List UInt8) (h : (rawQ k l).2.1.e = 0) (hx : (rawQ k l).2.2 = false) : l.take (rawQ k l).2.1.p = bytesQ (rawQ k l).1 ∧ GdQ (rawQ k l).1 ∧ (rawQ k l).1.k = k := by
  unfold rawQ at h hx ⊢
  simp only at h hx ⊢
  have h9 := obP_dec h hx
  have h8 := obP_dec h9.1 h9.2.1
  have h7 := onP_dec h8.1
  have h6 := ooP_dec h7.1 h8.2.1
  have h5 := ocP_dec h6.1 h6.2.1
  have h4 := otP_dec h5.1
  have h3 := otP_dec h4.1
  have h2 := otP_dec h3.1
  have h1 := otP_dec h2.1
  refine ⟨?_, ⟨h1.2.2.1, h1.2.2.2, h2.2.2.1, h2.2.2.2, h3.2.2.1, h3.2.2.2, h4.2.2.1, h4.2.2.2, h5.2.2.2.1.1, h5.2.2.2.1.2.1, h5.2.2.2.1.2.2.1, h5.2.2.2.1.2.2.2, h5.2.2.2.2, h6.2.2.2.1, h6.2.2.2.2.1, h6.2.2.2.2.2, h7.2.2.1.1, h7.2.2.1.2, h7.2.2.2, h8.2.2.2.1.1, h8.2.2.2.1.2, h8.2.2.2.2, h9.2.2.2.1.1, h9.2.2.2.1.2, h9.2.2.2.2⟩, trivial⟩
  unfold bytesQ
  simp only
  rw [h9.2.2.1, h8.2.2.1, h7.2.1, h6.2.2.1, h5.2.2.1, h4.2.1, h3.2.1, h2.2.1, h1.2.1]
  simp
end
/-- Is all read, as it should be? -/
def donQ (k : Int) (l : List UInt8) : Bool := doneP l.length (rawQ k l).2.1 (rawQ k l).2.2
theorem rawQ_ok {k : Int} {l : List UInt8} (h : donQ k l = true) : bytesQ (rawQ k l).1 = l ∧ GdQ (rawQ k l).1 ∧ (rawQ k l).1.k = k := by
  unfold donQ doneP at h
  simp only [Bool.and_eq_true, Bool.not_eq_true', beq_iff_eq, decide_eq_true_eq] at h
  obtain ⟨⟨hx, he⟩, hp⟩ := h
  have := rawQ_dec k l he hx
  rw [hp, List.take_length] at this
  exact ⟨this.1.symm, this.2⟩
theorem donQ_enc (q : Rq) (g : GdQ q) : rawQ q.k (bytesQ q) = (q, ⟨(bytesQ q).length, 0⟩, false) ∧ donQ q.k (bytesQ q) = true := by
  have h := rawQ_enc q g []
  rw [List.append_nil] at h
  refine ⟨h, ?_⟩
  unfold donQ
  rw [h]
  unfold doneP
  simp
theorem donQ_more (q : Rq) (g : GdQ q) (c : UInt8) : donQ q.k (bytesQ q ++ [c]) = false := by
  have h := rawQ_enc q g [c]
  unfold donQ
  rw [h]
  unfold doneP
  simp
theorem donQ_cut (q : Rq) (g : GdQ q) (m : Nat) (hm : m < (bytesQ q).length) : donQ q.k ((bytesQ q).take m) = false := by
  cases h : donQ q.k ((bytesQ q).take m) with
  | false => rfl
  | true =>
    exfalso
    obtain ⟨h1, h2, h0⟩ := rawQ_ok h
    have h3 := rawQ_enc _ h2 ((bytesQ q).drop m)
    rw [h1, h0, List.take_append_drop] at h3
    have h4 := rawQ_enc q g []
    rw [List.append_nil, h3] at h4
    have h5 := congrArg (fun z => z.2.1.p) h4
    simp only [List.length_take] at h5
    omega
end Go.Proofs.YtphijnkiiokieaaGreatDoor
/- The ops of a batch, in memory. -/
namespace Go.Proofs.YtphijnkiiokieaaGreatDoor
open Go.RowKit
open Go.Lib hiding intOf
set_option linter.unusedVariables false
set_option linter.unusedSimpArgs false
set_option maxRecDepth 20000
/-- Ops that lie in memory, five cells each. -/
structure Ops (w : World) (A : Option Addr) (len cap b off : Nat) (xs : List Opn) : Prop where
  hlen : xs.length = len
  le : len ≤ cap
  addr : 0 < len → A = some ⟨b, off, none⟩ ∧ b < w.heap.size
  cell : ∀ (j : Nat) (t : Opn), xs[j]? = some t → w.cell? ⟨b, off + j * 5, none⟩ = some (.bool t.d) ∧ w.cell? ⟨b, off + j * 5 + 1, none⟩ = some (.string t.u) ∧ w.cell? ⟨b, off + j * 5 + 2, none⟩ = some (.string t.c) ∧ w.cell? ⟨b, off + j * 5 + 3, none⟩ = some (.int .i64 t.k) ∧ w.cell? ⟨b, off + j * 5 + 4, none⟩ = some (.int .i64 t.v)
theorem Ops.blk {w w' : World} {A : Option Addr} {len cap b off : Nat} {xs : List Opn} (h : Ops w A len cap b off xs) (hs : w.heap.size ≤ w'.heap.size) (hb : 0 < len → w'.heap[b]? = w.heap[b]?) : Ops w' A len cap b off xs :=
  ⟨h.hlen, h.le, fun hl => ⟨(h.addr hl).1, Nat.lt_of_lt_of_le (h.addr hl).2 hs⟩, fun j t hj => by
    have hlt : j < xs.length := (List.getElem?_eq_some_iff.1 hj).1
    have hbb := hb (by have := h.hlen; omega)
    obtain ⟨h1, h2, h3, h4, h5⟩ := h.cell j t hj
    exact ⟨(World.cell?_of_block (a := ⟨b, _, none⟩) hbb).trans h1, (World.cell?_of_block (a := ⟨b, _, none⟩) hbb).trans h2, (World.cell?_of_block (a := ⟨b, _, none⟩) hbb).trans h3, (World.cell?_of_block (a := ⟨b, _, none⟩) hbb).trans h4, (World.cell?_of_block (a := ⟨b, _, none⟩) hbb).trans h5⟩⟩
theorem Ops.below {w w' : World} {A : Option Addr} {len cap b off B : Nat} {xs : List Opn} (h : Ops w A len cap b off xs) (hb : Below B w w') (hB : 0 < len → b < B) : Ops w' A len cap b off xs :=
  h.blk hb.size (fun hl => hb.block b (hB hl))
theorem Ops.on {w w' : World} {A : Option Addr} {len cap b off : Nat} {xs : List Opn} (h : Ops w A len cap b off xs) (hb : Below w.heap.size w w') : Ops w' A len cap b off xs :=
  h.below hb (fun hl => (h.addr hl).2)
theorem ops_none (w : World) : Ops w none 0 0 0 0 [] := ⟨rfl, Nat.le_refl _, fun h => absurd h (by simp), fun j t hj => by simp at hj⟩
def opC (t : Opn) : List Value := [.bool t.d, .string t.u, .string t.c, .int .i64 t.k, .int .i64 t.v]
def opsC (xs : List Opn) : List Value := (xs.map opC).flatten
theorem opsC_len (xs : List Opn) : (opsC xs).length = xs.length * 5 := by
  induction xs with
  | nil => rfl
  | cons t xs ih => unfold opsC at *; simp only [List.map_cons, List.flatten_cons, List.length_append, List.length_cons, ih]; simp [opC]; omega
theorem opsC_snoc (xs : List Opn) (t : Opn) : opsC (xs ++ [t]) = opsC xs ++ opC t := by unfold opsC; simp
theorem opsC_get : ∀ (xs : List Opn) (j : Nat) (t : Opn), xs[j]? = some t → ∀ i, i < 5 → (opsC xs)[j * 5 + i]? = (opC t)[i]?
  | [], j, t, h => by simp at h
  | y :: xs, 0, t, h => fun i hi => by
    simp at h; subst h
    have hl : (opC y).length = 5 := rfl
    show ((opC y) ++ opsC xs)[0 * 5 + i]? = _
    rw [Nat.zero_mul, Nat.zero_add, List.getElem?_append_left (by omega)]
  | y :: xs, j + 1, t, h => fun i hi => by
    have hl : (opC y).length = 5 := rfl
    show ((opC y) ++ opsC xs)[(j + 1) * 5 + i]? = _
    rw [List.getElem?_append_right (by omega), hl, show (j + 1) * 5 + i - 5 = j * 5 + i by omega]
    exact opsC_get xs j t (by simpa using h) i hi
theorem own_ops {w : World} {base : Nat} {v : Value} {xs : List Opn} (h : w.ownsRow base 43 5 v xs.length (opsC xs)) : ∃ A cap b, v = .slice A xs.length cap ∧ Ops w A xs.length cap b 0 xs ∧ (0 < xs.length → base ≤ b) := by
  have h0 := h
  obtain ⟨h1, ⟨rfl, h2⟩ | ⟨g, cap, cur, rfl, hg, hh, hc, hm, hcs, ht⟩⟩ := h
  · have : xs = [] := List.length_eq_zero_iff.1 h2
    subst this
    exact ⟨none, 0, 0, rfl, ops_none w, fun h => absurd h (by simp)⟩
  · refine ⟨some ⟨g, 0, none⟩, cap, g, rfl, ⟨rfl, hc, fun _ => ⟨rfl, Blk.lt hh⟩, fun j t hj => ?_⟩, fun _ => (h0.lt g rfl).1⟩
    have hjl : j < xs.length := (List.getElem?_eq_some_iff.1 hj).1
    have key : ∀ i, i < 5 → w.cell? ⟨g, 0 + j * 5 + i, none⟩ = (opC t)[i]? := fun i hi => by
      rw [Nat.zero_add, cell_of_row w g _ cur _ (0, 0) hh, ← opsC_get xs j t hj i hi, ← ht, List.getElem?_take, if_pos (by omega), Array.getElem?_toList]
    exact ⟨key 0 (by omega), key 1 (by omega), key 2 (by omega), key 3 (by omega), key 4 (by omega)⟩
abbrev shCd : Sh := Sh.agg 2 [(0, 1, Sh.int .i64), (1, 1, Sh.int .i64)]
abbrev shOp : Sh := Sh.agg 5 [(0, 1, Sh.bool), (1, 1, Sh.str), (2, 1, Sh.str), (3, 2, shCd)]
/-- An op that may be handed over. -/
structure WfO (o : Opn) : Prop where
  u : o.u.size ≤ maxLen
  c : o.c.size ≤ maxLen
  k0 : -9223372036854775808 ≤ o.k
  k : o.k < 9223372036854775808
  v0 : -9223372036854775808 ≤ o.v
  v : o.v < 9223372036854775808
theorem wf_range {v : Int} (h : (Lit.int .i64 v).wf = true) : -9223372036854775808 ≤ v ∧ v < 9223372036854775808 := by
  simp [Lit.wf, IntKind.min, IntKind.max, IntKind.signed, IntKind.bits] at h
  omega
theorem op_open {w : World} {cs : List Value} (h : Sh.ok w shOp cs) : ∃ t : Opn, cs = opC t ∧ WfO t := by
  simp only [Sh.ok, Sh.okAll] at h
  obtain ⟨hl, ⟨d, e0⟩, ⟨u, e1, hu⟩, ⟨c, e2, hc⟩, ⟨_, ⟨k, e3, hk⟩, ⟨v, e4, hv⟩, _⟩, _⟩ := h
  match cs, hl with
  | [c0, c1, c2, c3, c4], _ =>
    simp at e0 e1 e2 e3 e4
    subst e0 e1 e2 e3 e4
    have hk' := wf_range hk
    have hv' := wf_range hv
    exact ⟨⟨d, u, c, k, v⟩, rfl, ⟨hu, hc, hk'.1, hk'.2, hv'.1, hv'.2⟩⟩
theorem ops_open {w : World} {A : Option Addr} {len cap : Nat} (S : Sh.ok w (Sh.slice 5 shOp) [.slice A len cap]) : ∃ b off xs, Ops w A len cap b off xs ∧ (∀ t ∈ xs, WfO t) ∧ len ≤ maxLen := by
  obtain ⟨b, off, hle, hmax, ha, hc⟩ := slice_at S (by omega)
  have H : ∀ i, i < len → ∃ t : Opn, WfO t ∧ ∀ j, j < 5 → w.cell? ⟨b, off + i * 5 + j, none⟩ = (opC t)[j]? := by
    intro i hi
    obtain ⟨cs, hl, hok, hcell⟩ := hc i hi
    obtain ⟨t, rfl, h1⟩ := op_open hok
    exact ⟨t, h1, hcell⟩
  refine ⟨b, off, List.ofFn (fun i : Fin len => Classical.choose (H i.1 i.2)), ⟨by simp, hle, ha, fun j t hj => ?_⟩, fun t ht => ?_, by omega⟩
  · have hjl : j < len := by have := (List.getElem?_eq_some_iff.1 hj).1; simpa using this
    rw [List.getElem?_eq_getElem (by simpa using hjl)] at hj
    simp only [List.getElem_ofFn, Option.some.injEq] at hj
    have h2 := (Classical.choose_spec (H j hjl)).2
    rw [hj] at h2
    exact ⟨h2 0 (by omega), h2 1 (by omega), h2 2 (by omega), h2 3 (by omega), h2 4 (by omega)⟩
  · obtain ⟨i, rfl⟩ := (List.mem_ofFn).1 ht
    exact (Classical.choose_spec (H i.1 i.2)).1
theorem allO_snoc (p : Opn → Bool) (xs : List Opn) (q : Nat) (t : Opn) (h : xs[q]? = some t) : (xs.take (q + 1)).all p = ((xs.take q).all p && p t) := by
  rw [List.take_add_one, h]; simp
theorem allO_miss (p : Opn → Bool) (xs : List Opn) (q : Nat) (t : Opn) (h : xs[q]? = some t) (hp : p t = false) : xs.all p = false := by
  rw [List.all_eq_false]
  exact ⟨t, List.mem_of_getElem? h, by rw [hp]; decide⟩
theorem allO_full (p : Opn → Bool) (xs : List Opn) (q : Nat) (h : xs.length ≤ q) (hq : (xs.take q).all p = true) : xs.all p = true := by
  rw [List.take_of_length_le h] at hq; exact hq
end Go.Proofs.YtphijnkiiokieaaGreatDoor
namespace Go.Proofs.YtphijnkiiokieaaGreatDoor.Id
open Go.RowKit
set_option linter.unusedVariables false
def lowB (c : UInt8) : Bool := decide (97 ≤ (c.toNat : Int)) && decide ((c.toNat : Int) ≤ 122)
def upB (c : UInt8) : Bool := decide (65 ≤ (c.toNat : Int)) && decide ((c.toNat : Int) ≤ 90)
def digB (c : UInt8) : Bool := decide (48 ≤ (c.toNat : Int)) && decide ((c.toNat : Int) ≤ 57)
theorem small_any (c : UInt8) (w : World) : Calls Tryz.prog 74 #[.int .u8 (c.toNat : Int)] w fun e w' => e = .returned (.bool (lowB c)) ∧ w = w' := by
  have H : Hid (lowB c = (decide (97 ≤ (c.toNat : Int)) && decide ((c.toNat : Int) ≤ 122))) := rfl
  go_enter Tryz.func74, Tryz.ntmps74
  go_wp2
  all_goals go_ret
  all_goals refine ⟨ret_bool ?_, rfl⟩
  all_goals go_light
  all_goals rw [H.out]
  all_goals simp
  all_goals omega
theorem digit_any (c : UInt8) (w : World) : Calls Tryz.prog 75 #[.int .u8 (c.toNat : Int)] w fun e w' => e = .returned (.bool (digB c)) ∧ w = w' := by
  have H : Hid (digB c = (decide (48 ≤ (c.toNat : Int)) && decide ((c.toNat : Int) ≤ 57))) := rfl
  go_enter Tryz.func75, Tryz.ntmps75
  go_wp2
  all_goals go_ret
  all_goals refine ⟨ret_bool ?_, rfl⟩
  all_goals go_light
  all_goals rw [H.out]
  all_goals simp
  all_goals omega
theorem rlow_any (c : UInt8) (w : World) : Calls Tryz.prog 67 #[.int .u8 (c.toNat : Int)] w fun e w' => e = .returned (.bool (lowB c)) ∧ w = w' := by
  have H : Hid (lowB c = (decide (97 ≤ (c.toNat : Int)) && decide ((c.toNat : Int) ≤ 122))) := rfl
  go_enter Tryz.func67, Tryz.ntmps67
  go_wp2
  all_goals go_ret
  all_goals refine ⟨ret_bool ?_, rfl⟩
  all_goals go_light
  all_goals rw [H.out]
  all_goals simp
  all_goals omega
theorem rdigit_any (c : UInt8) (w : World) : Calls Tryz.prog 68 #[.int .u8 (c.toNat : Int)] w fun e w' => e = .returned (.bool (digB c)) ∧ w = w' := by
  have H : Hid (digB c = (decide (48 ≤ (c.toNat : Int)) && decide ((c.toNat : Int) ≤ 57))) := rfl
  go_enter Tryz.func68, Tryz.ntmps68
  go_wp2
  all_goals go_ret
  all_goals refine ⟨ret_bool ?_, rfl⟩
  all_goals go_light
  all_goals rw [H.out]
  all_goals simp
  all_goals omega
theorem great_any (c : UInt8) (w : World) : Calls Tryz.prog 76 #[.int .u8 (c.toNat : Int)] w fun e w' => e = .returned (.bool (upB c)) ∧ w = w' := by
  have H : Hid (upB c = (decide (65 ≤ (c.toNat : Int)) && decide ((c.toNat : Int) ≤ 90))) := rfl
  go_enter Tryz.func76, Tryz.ntmps76
  go_wp2
  all_goals go_ret
  all_goals refine ⟨ret_bool ?_, rfl⟩
  all_goals go_light
  all_goals rw [H.out]
  all_goals simp
  all_goals omega
theorem rup_any (c : UInt8) (w : World) : Calls Tryz.prog 69 #[.int .u8 (c.toNat : Int)] w fun e w' => e = .returned (.bool (upB c)) ∧ w = w' := by
  have H : Hid (upB c = (decide (65 ≤ (c.toNat : Int)) && decide ((c.toNat : Int) ≤ 90))) := rfl
  go_enter Tryz.func69, Tryz.ntmps69
  go_wp2
  all_goals go_ret
  all_goals refine ⟨ret_bool ?_, rfl⟩
  all_goals go_light
  all_goals rw [H.out]
  all_goals simp
  all_goals omega

def nmB (c : UInt8) : Bool := lowB c || digB c || (c.toNat : Int) == 45
def nameB (l : List UInt8) : Bool := decide (1 ≤ l.length) && decide (l.length ≤ 16) && lowB (l.getD 0 0) && !((l.getD (l.length - 1) 0).toNat == (45 : Int)) && l.all nmB
theorem all_snoc (s : ByteArray) (k : Nat) (h : k < s.size) (p : UInt8 → Bool) : (s.data.toList.take (k + 1)).all p = ((s.data.toList.take k).all p && p s[k]) := by
  rw [List.take_succ_eq_append_getElem (by simpa using h)]
  simp
  rfl
theorem all_bad (s : ByteArray) (k : Nat) (h : k < s.size) (p : UInt8 → Bool) (hp : p s[k] = false) : s.data.toList.all p = false := by
  rw [List.all_eq_false]
  refine ⟨s[k], ?_, by simp [hp]⟩
  show s.data[k] ∈ _
  simp
theorem all_good (s : ByteArray) (k : Nat) (h : ¬ k < s.size) (p : UInt8 → Bool) (hp : (s.data.toList.take k).all p = true) : s.data.toList.all p = true := by
  rwa [List.take_of_length_le (by simpa using h)] at hp

set_option maxHeartbeats 400000 in
theorem name_any (s : ByteArray) (w : World) (hs : s.size ≤ maxLen) : Calls Tryz.prog 63 #[.string s] w fun e w' => e = .returned (.bool (nameB s.data.toList)) ∧ w = w' := by
  unfold maxLen at hs
  by_cases h1 : s.size < 1
  · have H : Hid (nameB s.data.toList = false) := by show _ = _; simp [nameB]; omega
    go_enter Tryz.func63, Tryz.ntmps63
    go_wp2
    go_ret
    exact ⟨ret_bool H.out.symm, rfl⟩
  by_cases h2 : 16 < s.size
  · have H : Hid (nameB s.data.toList = false) := by show _ = _; simp [nameB]; omega
    go_enter Tryz.func63, Tryz.ntmps63
    go_wp2
    go_ret
    exact ⟨ret_bool H.out.symm, rfl⟩
  have h0 : 0 < s.size := by omega
  have e0 : s.data.toList.getD 0 0 = s[0] := by simp [List.getD, h0]; rfl
  have E0 := Lib.hid e0
  clear e0
  cases h3 : lowB s[0]
  · have H : Hid (nameB s.data.toList = false) := by
      show _ = _
      simp only [nameB, E0.out, h3]; simp
    go_enter Tryz.func63, Tryz.ntmps63
    go_wp2_with (go_at_call 74; refine (small_any _ _).mono ?_; rintro e w' ⟨rfl, rfl⟩)
    go_ret
    exact ⟨ret_bool H.out.symm, rfl⟩
  have hl : s.size - 1 < s.size := by omega
  have e2 : s.data.toList.getD (s.data.toList.length - 1) 0 = s[s.size - 1] := by simp [List.getD, hl]; rfl
  have E2 := Lib.hid e2
  clear e2
  have hl2 : (0 : Int) ≤ (s.size : Int) - 1 := by omega
  cases h4 : ((s[s.size - 1].toNat : Int) == 45)
  · have HN : Hid (nameB s.data.toList = s.data.toList.all nmB) := by
      show _ = _
      simp only [nameB, E0.out, h3, E2.out, h4]; simp; omega
    go_enter Tryz.func63, Tryz.ntmps63
    go_wp2_with (go_at_call 74; refine (small_any _ _).mono ?_; rintro e w' ⟨rfl, rfl⟩)
    go_loop [29] (fun i => ∃ k : Nat, k ≤ s.size ∧ i = .int .i64 k ∧ Hid ((s.data.toList.take k).all nmB = true)) (fun i => s.size - (intOf i).toNat)
    case atStart => exact ⟨0, Nat.zero_le _, rfl, by show _ = _; simp⟩
    case round =>
      obtain ⟨k, hk, rfl, hall⟩ := hrel
      by_cases hlt : k < s.size
      · have HS := Lib.hid (all_snoc s k hlt nmB)
        have HB := Lib.hid (fun h : nmB s[k] = false => HN.out.trans (all_bad s k hlt nmB h))
        have HM : Hid (nmB s[k] = (lowB s[k] || digB s[k] || (s[k].toNat : Int) == 45)) := rfl
        cases e1 : lowB s[k] <;> cases e2 : digB s[k] <;> cases e3 : ((s[k].toNat : Int) == 45)
        all_goals
          have e4 : ((s[k].toNat : Int) != 45) = !((s[k].toNat : Int) == 45) := rfl
          rw [e3] at e4
          have HV := Lib.hid (HM.out.trans (by rw [e1, e2, e3]))
          go_wp2_with (first | (go_at_call 74; refine (small_any _ _).mono ?_; rintro e w' ⟨rfl, rfl⟩) | (go_at_call 75; refine (digit_any _ _).mono ?_; rintro e w' ⟨rfl, rfl⟩))
          first
          | exact ⟨⟨k + 1, by omega, by go_num, by show _ = _; rw [HS.out, hall.out, HV.out]; rfl⟩, by simp [intOf]; omega⟩
          | (go_ret; exact ⟨ret_bool (HB.out HV.out).symm, rfl⟩)
      · have HG := Lib.hid (HN.out.trans (all_good s k hlt nmB hall.out))
        go_wp2
        go_ret
        exact ⟨ret_bool HG.out.symm, rfl⟩
  · have H : Hid (nameB s.data.toList = false) := by
      show _ = _
      simp only [nameB, E0.out, h3, E2.out, h4]; simp
    go_enter Tryz.func63, Tryz.ntmps63
    go_wp2_with (go_at_call 74; refine (small_any _ _).mono ?_; rintro e w' ⟨rfl, rfl⟩)
    go_ret
    exact ⟨ret_bool H.out.symm, rfl⟩

set_option maxHeartbeats 400000 in
theorem rname_any (s : ByteArray) (w : World) (hs : s.size ≤ maxLen) : Calls Tryz.prog 48 #[.string s] w fun e w' => e = .returned (.bool (nameB s.data.toList)) ∧ w = w' := by
  unfold maxLen at hs
  by_cases h1 : s.size < 1
  · have H : Hid (nameB s.data.toList = false) := by show _ = _; simp [nameB]; omega
    go_enter Tryz.func48, Tryz.ntmps48
    go_wp2
    go_ret
    exact ⟨ret_bool H.out.symm, rfl⟩
  by_cases h2 : 16 < s.size
  · have H : Hid (nameB s.data.toList = false) := by show _ = _; simp [nameB]; omega
    go_enter Tryz.func48, Tryz.ntmps48
    go_wp2
    go_ret
    exact ⟨ret_bool H.out.symm, rfl⟩
  have h0 : 0 < s.size := by omega
  have e0 : s.data.toList.getD 0 0 = s[0] := by simp [List.getD, h0]; rfl
  have E0 := Lib.hid e0
  clear e0
  cases h3 : lowB s[0]
  · have H : Hid (nameB s.data.toList = false) := by
      show _ = _
      simp only [nameB, E0.out, h3]; simp
    go_enter Tryz.func48, Tryz.ntmps48
    go_wp2_with (go_at_call 67; refine (rlow_any _ _).mono ?_; rintro e w' ⟨rfl, rfl⟩)
    go_ret
    exact ⟨ret_bool H.out.symm, rfl⟩
  have hl : s.size - 1 < s.size := by omega
  have e2 : s.data.toList.getD (s.data.toList.length - 1) 0 = s[s.size - 1] := by simp [List.getD, hl]; rfl
  have E2 := Lib.hid e2
  clear e2
  have hl2 : (0 : Int) ≤ (s.size : Int) - 1 := by omega
  cases h4 : ((s[s.size - 1].toNat : Int) == 45)
  · have HN : Hid (nameB s.data.toList = s.data.toList.all nmB) := by
      show _ = _
      simp only [nameB, E0.out, h3, E2.out, h4]; simp; omega
    go_enter Tryz.func48, Tryz.ntmps48
    go_wp2_with (go_at_call 67; refine (rlow_any _ _).mono ?_; rintro e w' ⟨rfl, rfl⟩)
    go_loop [3] (fun i => ∃ k : Nat, k ≤ s.size ∧ i = .int .i64 k ∧ Hid ((s.data.toList.take k).all nmB = true)) (fun i => s.size - (intOf i).toNat)
    case atStart => exact ⟨0, Nat.zero_le _, rfl, by show _ = _; simp⟩
    case round =>
      obtain ⟨k, hk, rfl, hall⟩ := hrel
      by_cases hlt : k < s.size
      · have HS := Lib.hid (all_snoc s k hlt nmB)
        have HB := Lib.hid (fun h : nmB s[k] = false => HN.out.trans (all_bad s k hlt nmB h))
        have HM : Hid (nmB s[k] = (lowB s[k] || digB s[k] || (s[k].toNat : Int) == 45)) := rfl
        cases e1 : lowB s[k] <;> cases e2 : digB s[k] <;> cases e3 : ((s[k].toNat : Int) == 45)
        all_goals
          have e4 : ((s[k].toNat : Int) != 45) = !((s[k].toNat : Int) == 45) := rfl
          rw [e3] at e4
          have HV := Lib.hid (HM.out.trans (by rw [e1, e2, e3]))
          go_wp2_with (first | (go_at_call 67; refine (rlow_any _ _).mono ?_; rintro e w' ⟨rfl, rfl⟩) | (go_at_call 68; refine (rdigit_any _ _).mono ?_; rintro e w' ⟨rfl, rfl⟩))
          first
          | exact ⟨⟨k + 1, by omega, by go_num, by show _ = _; rw [HS.out, hall.out, HV.out]; rfl⟩, by simp [intOf]; omega⟩
          | (go_ret; exact ⟨ret_bool (HB.out HV.out).symm, rfl⟩)
      · have HG := Lib.hid (HN.out.trans (all_good s k hlt nmB hall.out))
        go_wp2
        go_ret
        exact ⟨ret_bool HG.out.symm, rfl⟩
  · have H : Hid (nameB s.data.toList = false) := by
      show _ = _
      simp only [nameB, E0.out, h3, E2.out, h4]; simp
    go_enter Tryz.func48, Tryz.ntmps48
    go_wp2_with (go_at_call 67; refine (rlow_any _ _).mono ?_; rintro e w' ⟨rfl, rfl⟩)
    go_ret
    exact ⟨ret_bool H.out.symm, rfl⟩

end Go.Proofs.YtphijnkiiokieaaGreatDoor.Id
