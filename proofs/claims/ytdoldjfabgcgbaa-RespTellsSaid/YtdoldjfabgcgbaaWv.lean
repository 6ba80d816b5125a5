/- Decode. -/
import Derived.Test.YtdoldjfabgcgbaaWu
namespace Go.Proofs.Ytdoldjfabgcgbaa
open Go.RowKit
open Go.Lib hiding intOf
set_option linter.unusedVariables false
set_option linter.unusedSimpArgs false
set_option maxRecDepth 20000
theorem results_cell1 {fn : Func} {p u : Tmp} {ty : TypeId} (h : fn.results = #[.cell p ty, .tmp u]) (tmps : Array Value) (P : Program) (w : World) (g : Nat) (t : TypeId) (cs : Array Value) (fr : Nat × Nat) (fs : Array Field)
    (hp : tmps.getD p undef = .pointer (some ⟨g, 0, none⟩)) (hg : w.heap[g]? = some (.cells cs t fr))
    (hu : P.underlying ty = some (.struct fs)) (hi : (P.info? ty).map (·.size) = some cs.size) :
    (results fn tmps).run P w = .ok (.tuple #[.agg cs, tmps.getD u undef]) w := by
  have hp' : tmps[p]?.getD undef = .pointer (some ⟨g, 0, none⟩) := by simpa using hp
  simp [results, h, hp', asAddr, run_loadVar_row w g t ty cs fr _ hg hu rfl hi]
theorem dec_out {cs : Array Value} (hc : cs.size = 8) {R : Ending → World → Prop} {a : Act} {w : World} {g : Nat} (h2 : a.tmps.getD 4 undef = .pointer (some ⟨g, 0, none⟩)) (hd : a.defers = []) (hg : Blk w g 25 cs)
    (hR : R (.returned (.tuple #[.agg cs, a.tmps.getD 5 undef])) w) : bodyPost Try.prog Try.f11 R .ret a w :=
  bodyPost_ret (results_cell1 (fn := Try.f11) rfl a.tmps Try.prog w g 25 cs (0, 0) _ h2 hg Try.underlying25 (by rw [hc]; rfl)) hd hR
theorem Its.blk {w w' : World} {A : Option Addr} {len cap b off : Nat} {xs : List It} (h : Its w A len cap b off xs) (hs : w.heap.size ≤ w'.heap.size) (hb : 0 < len → w'.heap[b]? = w.heap[b]?) : Its w' A len cap b off xs :=
  ⟨h.hlen, h.le, fun hl => ⟨(h.addr hl).1, Nat.lt_of_lt_of_le (h.addr hl).2 hs⟩, fun j t hj => by
    have hlt : j < xs.length := (List.getElem?_eq_some_iff.1 hj).1
    have hbb := hb (by have := h.hlen; omega)
    obtain ⟨h1, h2, h3, h4⟩ := h.cell j t hj
    exact ⟨(World.cell?_of_block (a := ⟨b, _, none⟩) hbb).trans h1, (World.cell?_of_block (a := ⟨b, _, none⟩) hbb).trans h2, (World.cell?_of_block (a := ⟨b, _, none⟩) hbb).trans h3, (World.cell?_of_block (a := ⟨b, _, none⟩) hbb).trans h4⟩⟩
theorem own_its2 {w : World} {base : Nat} {v : Value} {xs : List It} (h : w.ownsRow base 39 4 v xs.length (itsC xs)) : ∃ A cap b, v = .slice A xs.length cap ∧ Its w A xs.length cap b 0 xs ∧ (0 < xs.length → base ≤ b) := by
  obtain ⟨A, cap, b, rfl, hI⟩ := own_its h
  refine ⟨A, cap, b, rfl, hI, fun hl => ?_⟩
  have e := (hI.addr hl).1
  subst e
  exact (h.lt b rfl).1
def zero8 : Array Value := #[.int .i64 0, .int .i64 0, .int .i64 0, .int .i64 0, .string ⟨#[]⟩, .int .i64 0, .bool false, .slice none 0 0]
/-- What stands while Decode reads. -/
structure Dc (w0 wr : World) (G g R X : Nat) (cs : Array Value) (s : ByteArray) (q : Ps) (x : Bool) : Prop where
  wi : Wi wr G g s q x
  rb : Blk wr R 25 zero8
  bx : Blk wr X 25 cs
  bel : Below w0.heap.size w0 wr
  hR : w0.heap.size ≤ R
  hG : R < G
  hg : R < g
  hX : G < X
  hx : g < X
section
variable {w0 wr w' : World} {G g R X : Nat} {cs : Array Value} {s : ByteArray} {q q' : Ps} {x x' : Bool}
theorem Dc.call (h : Dc w0 wr G g R X cs s q x) (hw : Wi w' G g s q' x') (ht : Tw2 wr w' G g) : Dc w0 w' G g R X cs s q' x' := by
  have h1 := h.hR; have h2 := h.hG; have h3 := h.hg; have h4 := h.hX; have h5 := h.hx
  exact ⟨hw, (ht.block R h.rb.lt (by omega) (by omega)).trans h.rb, (ht.block X h.bx.lt (by omega) (by omega)).trans h.bx, h.bel.trans (ht.below (by omega) (by omega) h.bel.size), h1, h2, h3, h4, h5⟩
theorem Dc.set (h : Dc w0 wr G g R X cs s q x) (i : Nat) (u : Value) : Dc w0 (wr.setCell ⟨X, i, none⟩ u) G g R X (cs.setIfInBounds i u) s q x := by
  have h1 := h.hR; have h2 := h.hG; have h3 := h.hg; have h4 := h.hX; have h5 := h.hx
  exact ⟨⟨h.wi.bx.far (p := ⟨X, i, none⟩) (by show G ≠ X; omega) u, Blk.far (p := ⟨X, i, none⟩) h.wi.rd (by show g ≠ X; omega) u, h.wi.ne, h.wi.hp⟩, h.rb.far (p := ⟨X, i, none⟩) (by show R ≠ X; omega) u, h.bx.set_ i u, h.bel.setCell (p := ⟨X, i, none⟩) (by show _ ≤ X; omega) u, h1, h2, h3, h4, h5⟩
theorem Dc.start {w w1 : World} {cs : Array Value} (hb0 : Below w.heap.size w (w.alloc (.cells zero8 25))) (hW : Wi w1 G g s q x) (hg : w.heap.size + 1 ≤ g) (hG : w.heap.size + 1 ≤ G) (hb : Below (w.alloc (.cells zero8 25)).heap.size (w.alloc (.cells zero8 25)) w1) : Dc w (w1.alloc (.cells cs 25)) G g w.heap.size w1.heap.size cs s q x := by
  have hb1 : Below w1.heap.size w1 (w1.alloc (.cells cs 25)) := (Below.refl _ _).alloc (Nat.le_refl _) _
  have l1 := hW.bx.lt
  have l2 : g < w1.heap.size := Blk.lt hW.rd
  have r0 : Blk w1 w.heap.size 25 zero8 := (Blk.new w _ _).below hb (by simp)
  exact ⟨hW.keep hb1, r0.below hb1 r0.lt, Blk.new _ _ _, (hb0.trans (hb.mono hb0.size)).trans (hb1.mono (Nat.le_trans hb0.size (Nat.le_trans (Nat.le_refl _) hb.size))), Nat.le_refl _, by omega, by omega, l1, l2⟩
theorem Dc.keep (h : Dc w0 wr G g R X cs s q x) (hb : Below wr.heap.size wr w') : Dc w0 w' G g R X cs s q x := h.call (h.wi.keep hb) (Tw2.ofBelow hb)
end
theorem put8_0 {w : World} {R : Nat} {t : TypeId} {x0 x1 x2 x3 x4 x5 x6 x7 : Value} (k : Blk w R t #[x0, x1, x2, x3, x4, x5, x6, x7]) (u : Value) : Blk (w.setCell ⟨R, 0, none⟩ u) R t #[u, x1, x2, x3, x4, x5, x6, x7] := k.set_ 0 u
theorem put8_1 {w : World} {R : Nat} {t : TypeId} {x0 x1 x2 x3 x4 x5 x6 x7 : Value} (k : Blk w R t #[x0, x1, x2, x3, x4, x5, x6, x7]) (u : Value) : Blk (w.setCell ⟨R, 1, none⟩ u) R t #[x0, u, x2, x3, x4, x5, x6, x7] := k.set_ 1 u
theorem put8_2 {w : World} {R : Nat} {t : TypeId} {x0 x1 x2 x3 x4 x5 x6 x7 : Value} (k : Blk w R t #[x0, x1, x2, x3, x4, x5, x6, x7]) (u : Value) : Blk (w.setCell ⟨R, 2, none⟩ u) R t #[x0, x1, u, x3, x4, x5, x6, x7] := k.set_ 2 u
theorem put8_3 {w : World} {R : Nat} {t : TypeId} {x0 x1 x2 x3 x4 x5 x6 x7 : Value} (k : Blk w R t #[x0, x1, x2, x3, x4, x5, x6, x7]) (u : Value) : Blk (w.setCell ⟨R, 3, none⟩ u) R t #[x0, x1, x2, u, x4, x5, x6, x7] := k.set_ 3 u
theorem put8_4 {w : World} {R : Nat} {t : TypeId} {x0 x1 x2 x3 x4 x5 x6 x7 : Value} (k : Blk w R t #[x0, x1, x2, x3, x4, x5, x6, x7]) (u : Value) : Blk (w.setCell ⟨R, 4, none⟩ u) R t #[x0, x1, x2, x3, u, x5, x6, x7] := k.set_ 4 u
theorem put8_5 {w : World} {R : Nat} {t : TypeId} {x0 x1 x2 x3 x4 x5 x6 x7 : Value} (k : Blk w R t #[x0, x1, x2, x3, x4, x5, x6, x7]) (u : Value) : Blk (w.setCell ⟨R, 5, none⟩ u) R t #[x0, x1, x2, x3, x4, u, x6, x7] := k.set_ 5 u
theorem put8_6 {w : World} {R : Nat} {t : TypeId} {x0 x1 x2 x3 x4 x5 x6 x7 : Value} (k : Blk w R t #[x0, x1, x2, x3, x4, x5, x6, x7]) (u : Value) : Blk (w.setCell ⟨R, 6, none⟩ u) R t #[x0, x1, x2, x3, x4, x5, u, x7] := k.set_ 6 u
theorem put8_7 {w : World} {R : Nat} {t : TypeId} {x0 x1 x2 x3 x4 x5 x6 x7 : Value} (k : Blk w R t #[x0, x1, x2, x3, x4, x5, x6, x7]) (u : Value) : Blk (w.setCell ⟨R, 7, none⟩ u) R t #[x0, x1, x2, x3, x4, x5, x6, u] := k.set_ 7 u
theorem put8 {w : World} {R : Nat} {t : TypeId} (k : Blk w R t zero8) (a b c d e f g h : Value) : Blk ((((((((w.setCell ⟨R, 0, none⟩ a).setCell ⟨R, 1, none⟩ b).setCell ⟨R, 2, none⟩ c).setCell ⟨R, 3, none⟩ d).setCell ⟨R, 4, none⟩ e).setCell ⟨R, 5, none⟩ f).setCell ⟨R, 6, none⟩ g).setCell ⟨R, 7, none⟩ h) R t #[a, b, c, d, e, f, g, h] := by
  have k0 : Blk w R t #[.int .i64 0, .int .i64 0, .int .i64 0, .int .i64 0, .string ⟨#[]⟩, .int .i64 0, .bool false, .slice none 0 0] := k
  exact (put8_7 (put8_6 (put8_5 (put8_4 (put8_3 (put8_2 (put8_1 (put8_0 k0 a) b) c) d) e) f) g) h)
theorem bel8 {w0 w : World} {B R : Nat} (k : Below B w0 w) (hR : B ≤ R) (a b c d e f g h : Value) : Below B w0 ((((((((w.setCell ⟨R, 0, none⟩ a).setCell ⟨R, 1, none⟩ b).setCell ⟨R, 2, none⟩ c).setCell ⟨R, 3, none⟩ d).setCell ⟨R, 4, none⟩ e).setCell ⟨R, 5, none⟩ f).setCell ⟨R, 6, none⟩ g).setCell ⟨R, 7, none⟩ h) := ((((((((k.setCell (p := ⟨R, 0, none⟩) hR a).setCell (p := ⟨R, 1, none⟩) hR b).setCell (p := ⟨R, 2, none⟩) hR c).setCell (p := ⟨R, 3, none⟩) hR d).setCell (p := ⟨R, 4, none⟩) hR e).setCell (p := ⟨R, 5, none⟩) hR f).setCell (p := ⟨R, 6, none⟩) hR g).setCell (p := ⟨R, 7, none⟩) hR h)
theorem heap8 {w : World} {R j : Nat} (hj : j ≠ R) (a b c d e f g h : Value) : ((((((((w.setCell ⟨R, 0, none⟩ a).setCell ⟨R, 1, none⟩ b).setCell ⟨R, 2, none⟩ c).setCell ⟨R, 3, none⟩ d).setCell ⟨R, 4, none⟩ e).setCell ⟨R, 5, none⟩ f).setCell ⟨R, 6, none⟩ g).setCell ⟨R, 7, none⟩ h).heap[j]? = w.heap[j]? := by
  repeat rw [Below.heap_setCell _ _ _ _ hj]
theorem size8 {w : World} {R : Nat} (a b c d e f g h : Value) : ((((((((w.setCell ⟨R, 0, none⟩ a).setCell ⟨R, 1, none⟩ b).setCell ⟨R, 2, none⟩ c).setCell ⟨R, 3, none⟩ d).setCell ⟨R, 4, none⟩ e).setCell ⟨R, 5, none⟩ f).setCell ⟨R, 6, none⟩ g).setCell ⟨R, 7, none⟩ h).heap.size = w.heap.size := by simp [World.setCell]
theorem numP_lt (l : List UInt8) (q : Ps) : (numP l q).1 < 9223372036854775808 := by
  unfold numP
  split
  · show (0 : Int) < _; decide
  · split
    · rename_i h
      have := (rt_ok (l := l.drop q.p) (n := (rt (l.drop q.p)).1) (k := (rt (l.drop q.p)).2.1) (by rw [← h])).2.2.2
      show (((rt (l.drop q.p)).1 : Nat) : Int) < _
      omega
    · show (0 : Int) < _; decide
theorem itsP_lt (l : List UInt8) : ∀ (n : Nat) (q : Ps) (x : Bool), ∀ t ∈ (itsP n l q x).1, t.v < 9223372036854775808
  | 0, _, _, t, h => by simp [itsP] at h
  | n + 1, q, x, t, h => by
    unfold itsP at h
    split at h
    · simp at h
    · rcases List.mem_cons.1 h with rfl | h
      · unfold itP; exact numP_lt _ _
      · exact itsP_lt l n _ _ t h
/-- What is read: an answer's fields, and whether all is read. -/
structure Rp where
  e : Int
  tok : Int
  ver : Int
  card : ByteArray
  idx : Int
  more : Bool
  xs : List It
def rpZ : Rp := ⟨0, 0, 0, ⟨#[]⟩, 0, false, []⟩
def decP (l : List UInt8) : Rp × Bool :=
  let a1 := belowP 2147483647 l ⟨0, 0⟩ false
  let a2 := numP l a1.2.1
  let a3 := numP l a2.2
  let a4 := textP 20000 l a3.2
  let a5 := belowP 2147483647 l a4.2 a1.2.2
  let a6 := markP l a5.2.1 a5.2.2
  let a7 := itsR l a6.2.1 a6.2.2
  (⟨a1.1, a2.1, a3.1, a4.1, a5.1, a6.1, a7.1⟩, doneP l.length a7.2.1 a7.2.2)
def checkRp (k : Int) (r : Rp) : Int := checkR k r.e r.tok r.ver r.card r.idx r.more r.xs
/-- Decode: the kind, the fields, the code. -/
def decR (kind : Int) (l : List UInt8) : Int × Rp × Int :=
  if kind < 128 ∨ 139 < kind then (0, rpZ, 12)
  else if (decP l).2 = false then (0, rpZ, 1)
  else if checkRp (kind - 128) (decP l).1 ≠ 0 then (0, rpZ, checkRp (kind - 128) (decP l).1)
  else (kind - 128, (decP l).1, 0)
/-- What stands for an answer. -/
def rpV (k : Int) (r : Rp) (A : Option Addr) (cap : Nat) : Array Value := #[.int .i64 k, .int .i64 r.e, .int .i64 r.tok, .int .i64 r.ver, .string r.card, .int .i64 r.idx, .bool r.more, .slice A r.xs.length cap]
theorem its_none (w : World) : Its w none 0 0 0 0 [] := ⟨rfl, Nat.le_refl _, fun h => absurd h (by simp), fun j t hj => by simp at hj⟩
section
variable {w : World} {A : Option Addr} {len cap b off : Nat} {l : List UInt8}
/-- What Decode answers. -/
def DecPost (w : World) (kind : Int) (l : List UInt8) (r : Ending) (w' : World) : Prop :=
  ∃ A cap b, r = .returned (.tuple #[.agg (rpV (decR kind l).1 (decR kind l).2.1 A cap), .int .i64 (decR kind l).2.2]) ∧ Its w' A (decR kind l).2.1.xs.length cap b 0 (decR kind l).2.1.xs ∧ (0 < (decR kind l).2.1.xs.length → w.heap.size ≤ b) ∧ Below w.heap.size w w'
theorem decPost_none {w' : World} {kind c : Int} (h : decR kind l = (0, rpZ, c)) (hb : Below w.heap.size w w') : DecPost w kind l (.returned (.tuple #[.agg zero8, .int .i64 c])) w' := by
  unfold DecPost
  rw [h]
  exact ⟨none, 0, 0, rfl, its_none _, fun h => absurd h (by simp [rpZ]), hb⟩
set_option maxHeartbeats 8000000 in
theorem dec_kind (kind : Int) (hk : kind < 128 ∨ 139 < kind) (A : Option Addr) (len cap : Nat) (l : List UInt8) : Calls Try.prog 11 #[.int .i64 kind, .slice A len cap] w (DecPost w kind l) := by
  have H0 := Lib.hid (show decR kind l = (0, rpZ, 12) from if_pos hk)
  by_cases h1 : kind < 128
  · go_enter Try.func11, Try.ntmps11
    go_wp2
    exact dec_out (cs := zero8) rfl (g := w.heap.size) rfl rfl (Blk.new w _ _) (decPost_none H0.out ((Below.refl _ _).alloc (Nat.le_refl _) _))
  · have h2 : 139 < kind := by omega
    go_enter Try.func11, Try.ntmps11
    go_wp2
    exact dec_out (cs := zero8) rfl (g := w.heap.size) rfl rfl (Blk.new w _ _) (decPost_none H0.out ((Below.refl _ _).alloc (Nat.le_refl _) _))
theorem Byt.on {w w' : World} (h : Byt w A len cap b off l) (hb : Below w.heap.size w w') : Byt w' A len cap b off l :=
  ⟨h.hlen, h.le, h.hmax, fun hl => ⟨(h.addr hl).1, Nat.lt_of_lt_of_le (h.addr hl).2 hb.size⟩, fun j u hj => by
    have hlt : j < l.length := (List.getElem?_eq_some_iff.1 hj).1
    have hbb := (h.addr (by have := h.hlen; omega)).2
    rw [hb.cell (p := ⟨b, _, none⟩) hbb]
    exact h.cell j u hj⟩
set_option maxHeartbeats 8000000 in
theorem dec_read (h : Byt w A len cap b off l) (hl : l.length ≤ 1000000) (kind : Int) (h1 : 128 ≤ kind) (h2 : kind ≤ 139) : Calls Try.prog 11 #[.int .i64 kind, .slice A len cap] w (DecPost w kind l) := by
  have hs : (⟨l.toArray⟩ : ByteArray).size ≤ 1000000 := by show l.toArray.size ≤ _; simpa using hl
  have hb0 : Below w.heap.size w (w.alloc (.cells zero8 25)) := (Below.refl _ _).alloc (Nat.le_refl _) _
  have HRD := Lib.hid (wread_any (h.on hb0))
  have HB0 := Lib.hid hb0
  clear h hb0
  obtain ⟨⟨v1, q1, x1⟩, e1⟩ : ∃ z, belowP 2147483647 l ⟨0, 0⟩ false = z := ⟨_, rfl⟩
  obtain ⟨⟨v2, q2⟩, e2⟩ : ∃ z, numP l q1 = z := ⟨_, rfl⟩
  obtain ⟨⟨v3, q3⟩, e3⟩ : ∃ z, numP l q2 = z := ⟨_, rfl⟩
  obtain ⟨⟨v4, q4⟩, e4⟩ : ∃ z, textP 20000 l q3 = z := ⟨_, rfl⟩
  obtain ⟨⟨v5, q5, x5⟩, e5⟩ : ∃ z, belowP 2147483647 l q4 x1 = z := ⟨_, rfl⟩
  obtain ⟨⟨v6, q6, x6⟩, e6⟩ : ∃ z, markP l q5 x5 = z := ⟨_, rfl⟩
  obtain ⟨⟨v7, q7, x7⟩, e7⟩ : ∃ z, itsR l q6 x6 = z := ⟨_, rfl⟩
  obtain ⟨dn, e8⟩ : ∃ z, doneP l.length q7 x7 = z := ⟨_, rfl⟩
  have eD : decP l = (⟨v1, v2, v3, v4, v5, v6, v7⟩, dn) := by unfold decP; simp only [e1, e2, e3, e4, e5, e6, e7, e8]
  have l2 : v2 < 9223372036854775808 := by have := numP_lt l q1; rw [e2] at this; exact this
  have l3 : v3 < 9223372036854775808 := by have := numP_lt l q2; rw [e3] at this; exact this
  have HL7 := Lib.hid (show ∀ t ∈ v7, t.v < 9223372036854775808 by have := itsP_lt l (belowP 2147483647 l q6 x6).1.toNat (belowP 2147483647 l q6 x6).2.1 (belowP 2147483647 l q6 x6).2.2; unfold itsR at e7; rw [e7] at this; exact this)
  obtain ⟨c, hc⟩ : ∃ c, checkR (kind - 128) v1 v2 v3 v4 v5 v6 v7 = c := ⟨_, rfl⟩
  have HD := Lib.hid (show decR kind l = if dn = false then (0, rpZ, 1) else if c ≠ 0 then (0, rpZ, c) else (kind - 128, ⟨v1, v2, v3, v4, v5, v6, v7⟩, 0) by
    unfold decR checkRp
    rw [if_neg (by omega), eD]
    simp only [hc])
  have HF1 := Lib.hid (fun w0 G g (h : Wi w0 G g ⟨l.toArray⟩ ⟨0, 0⟩ false) => below_any h hs 2147483647)
  have HF2 := Lib.hid (fun w0 G g (h : Wi w0 G g ⟨l.toArray⟩ q1 x1) => wnum_any h hs)
  have HF3 := Lib.hid (fun w0 G g (h : Wi w0 G g ⟨l.toArray⟩ q2 x1) => wnum_any h hs)
  have HF4 := Lib.hid (fun w0 G g (h : Wi w0 G g ⟨l.toArray⟩ q3 x1) => field_any h hs)
  have HF5 := Lib.hid (fun w0 G g (h : Wi w0 G g ⟨l.toArray⟩ q4 x1) => below_any h hs 2147483647)
  have HF6 := Lib.hid (fun w0 G g (h : Wi w0 G g ⟨l.toArray⟩ q5 x5) => wmark_any h hs)
  have HF7 := Lib.hid (fun w0 G g (h : Wi w0 G g ⟨l.toArray⟩ q6 x6) hG hg => items_any h hs hG hg)
  have HF8 := Lib.hid (fun w0 G g (h : Wi w0 G g ⟨l.toArray⟩ q7 x7) => wdone_any h hs)
  have esz : (⟨l.toArray⟩ : ByteArray).size = l.length := by show l.toArray.size = _; simp
  rw [show (⟨l.toArray⟩ : ByteArray).data.toList = l from rfl] at HF1 HF2 HF3 HF4 HF5 HF6 HF7
  rw [e1] at HF1
  rw [e2] at HF2
  rw [e3] at HF3
  rw [e4] at HF4
  rw [e5] at HF5
  rw [e6] at HF6
  rw [e7] at HF7
  rw [esz, e8] at HF8
  simp only at HF1 HF2 HF3 HF4 HF5 HF6 HF7
  have HC := Lib.hid (fun w0 A cap b (h : Its w0 A v7.length cap b 0 v7) => hc ▸ check_any h (kind - 128) v1 v2 v3 v4 v5 v6 l2 l3 HL7.out)
  clear e1 e2 e3 e4 e5 e6 e7 e8 eD l2 l3 HL7 hc esz hs hl
  go_enter Try.func11, Try.ntmps11
  go_wp2_with fail
  refine HRD.out.mono ?_
  rintro _ w1 ⟨G, g, rfl, hW, hg0, hG0, hb⟩
  have HD0 := Lib.hid (Dc.start (cs := #[.int .i64 (kind - 128), .int .i64 0, .int .i64 0, .int .i64 0, .string ⟨#[]⟩, .int .i64 0, .bool false, .slice none 0 0]) HB0.out hW (by simpa using hg0) (by simpa using hG0) hb)
  clear hW hg0 hG0 hb
  go_wp2_with fail
  refine (HF1.out _ _ _ HD0.out.wi).mono ?_
  rintro _ y1 ⟨rfl, h1, h2⟩
  have HE1 := Lib.hid (HD0.out.call h1 h2)
  have g1 := HE1.out.bx.cell 1
  have f1 := HE1.out.bx.frozen 1
  have HD1 := Lib.hid (HE1.out.set 1 (.int .i64 v1))
  clear h1 h2
  have d2 := HD1.out.wi.bx.cell 0
  go_wp2_with fail
  refine (HF2.out _ _ _ HD1.out.wi).mono ?_
  rintro _ y2 ⟨rfl, h1, h2⟩
  have HE2 := Lib.hid (HD1.out.call h1 h2)
  have g2 := HE2.out.bx.cell 2
  have f2 := HE2.out.bx.frozen 2
  have HD2 := Lib.hid (HE2.out.set 2 (.int .i64 v2))
  clear h1 h2
  have d3 := HD2.out.wi.bx.cell 0
  go_wp2_with fail
  refine (HF3.out _ _ _ HD2.out.wi).mono ?_
  rintro _ y3 ⟨rfl, h1, h2⟩
  have HE3 := Lib.hid (HD2.out.call h1 h2)
  have g3 := HE3.out.bx.cell 3
  have f3 := HE3.out.bx.frozen 3
  have HD3 := Lib.hid (HE3.out.set 3 (.int .i64 v3))
  clear h1 h2
  go_wp2_with fail
  refine (HF4.out _ _ _ HD3.out.wi).mono ?_
  rintro _ y4 ⟨rfl, h1, h2⟩
  have HE4 := Lib.hid (HD3.out.call h1 h2)
  have g4 := HE4.out.bx.cell 4
  have f4 := HE4.out.bx.frozen 4
  have HD4 := Lib.hid (HE4.out.set 4 (.string v4))
  clear h1 h2
  go_wp2_with fail
  refine (HF5.out _ _ _ HD4.out.wi).mono ?_
  rintro _ y5 ⟨rfl, h1, h2⟩
  have HE5 := Lib.hid (HD4.out.call h1 h2)
  have g5 := HE5.out.bx.cell 5
  have f5 := HE5.out.bx.frozen 5
  have HD5 := Lib.hid (HE5.out.set 5 (.int .i64 v5))
  clear h1 h2
  go_wp2_with fail
  refine (HF6.out _ _ _ HD5.out.wi).mono ?_
  rintro _ y6 ⟨rfl, h1, h2⟩
  have HE6 := Lib.hid (HD5.out.call h1 h2)
  have g6 := HE6.out.bx.cell 6
  have f6 := HE6.out.bx.frozen 6
  have HD6 := Lib.hid (HE6.out.set 6 (.bool v6))
  clear h1 h2
  go_wp2_with fail
  refine (HF7.out _ _ _ HD6.out.wi HD6.out.wi.bx.lt (Blk.lt HD6.out.wi.rd)).mono ?_
  rintro _ y7 ⟨v, rfl, h0, h1, h2⟩
  have HE7 := Lib.hid (HD6.out.call h1 h2)
  obtain ⟨A7, cap7, b7, rfl, hI, hB7⟩ := own_its2 h0
  have HB7 := Lib.hid (show 0 < v7.length → w1.heap.size < b7 from fun h => Nat.lt_of_lt_of_le HD6.out.bx.lt (hB7 h))
  have g7 := HE7.out.bx.cell 7
  have f7 := HE7.out.bx.frozen 7
  have HD7 := Lib.hid (HE7.out.set 7 (.slice A7 v7.length cap7))
  have HJ7 := Lib.hid (show Its (y7.setCell ⟨w1.heap.size, 7, none⟩ (.slice A7 v7.length cap7)) A7 v7.length cap7 b7 0 v7 from hI.blk (by simp [World.setCell]) (fun h => Below.heap_setCell _ _ _ _ (by have := HB7.out h; show b7 ≠ w1.heap.size; omega)))
  clear h0 h1 h2 hI hB7
  cases dn with
  | false =>
    have H0 := Lib.hid (show decR kind l = (0, rpZ, 1) from HD.out)
    go_wp2_with fail
    refine (HF8.out _ _ _ HD7.out.wi).mono ?_
    rintro _ y8 ⟨rfl, hb⟩
    have HK8 := Lib.hid (HD7.out.keep hb)
    clear hb
    have rc0 := HK8.out.rb.cell 0
    have rf0 := HK8.out.rb.frozen 0
    have rc1 := HK8.out.rb.cell 1
    have rf1 := HK8.out.rb.frozen 1
    have rc2 := HK8.out.rb.cell 2
    have rf2 := HK8.out.rb.frozen 2
    have rc3 := HK8.out.rb.cell 3
    have rf3 := HK8.out.rb.frozen 3
    have rc4 := HK8.out.rb.cell 4
    have rf4 := HK8.out.rb.frozen 4
    have rc5 := HK8.out.rb.cell 5
    have rf5 := HK8.out.rb.frozen 5
    have rc6 := HK8.out.rb.cell 6
    have rf6 := HK8.out.rb.frozen 6
    have rc7 := HK8.out.rb.cell 7
    have rf7 := HK8.out.rb.frozen 7
    simp only [zero8, List.getElem?_toArray, List.getElem?_cons_zero, List.getElem?_cons_succ] at rc0 rc1 rc2 rc3 rc4 rc5 rc6 rc7
    go_wp2
    exact dec_out rfl (g := w.heap.size) rfl rfl (put8 HK8.out.rb (.int .i64 0) (.int .i64 0) (.int .i64 0) (.int .i64 0) (.string ⟨#[]⟩) (.int .i64 0) (.bool false) (.slice none 0 0)) (decPost_none H0.out (bel8 HK8.out.bel (Nat.le_refl _) (.int .i64 0) (.int .i64 0) (.int .i64 0) (.int .i64 0) (.string ⟨#[]⟩) (.int .i64 0) (.bool false) (.slice none 0 0)))
  | true =>
    have HD2 := Lib.hid (show decR kind l = if c ≠ 0 then (0, rpZ, c) else (kind - 128, ⟨v1, v2, v3, v4, v5, v6, v7⟩, 0) from HD.out)
    go_wp2_with fail
    refine (HF8.out _ _ _ HD7.out.wi).mono ?_
    rintro _ y8 ⟨rfl, hb⟩
    have HK8 := Lib.hid (HD7.out.keep hb)
    have HJ8 := Lib.hid (HJ7.out.below hb (fun hl => (HJ7.out.addr hl).2))
    clear hb HD
    have s0 := HK8.out.bx.cell 0
    have s1 := HK8.out.bx.cell 1
    have s2 := HK8.out.bx.cell 2
    have s3 := HK8.out.bx.cell 3
    have s4 := HK8.out.bx.cell 4
    have s5 := HK8.out.bx.cell 5
    have s6 := HK8.out.bx.cell 6
    have s7 := HK8.out.bx.cell 7
    go_wp2_with fail
    refine (HC.out _ _ _ _ HJ8.out).mono ?_
    rintro _ y9 ⟨rfl, hb⟩
    have HK9 := Lib.hid (HK8.out.keep hb)
    have HJ9 := Lib.hid (HJ8.out.below hb (fun hl => (HJ8.out.addr hl).2))
    clear hb
    have rc0 := HK9.out.rb.cell 0
    have rf0 := HK9.out.rb.frozen 0
    have rc1 := HK9.out.rb.cell 1
    have rf1 := HK9.out.rb.frozen 1
    have rc2 := HK9.out.rb.cell 2
    have rf2 := HK9.out.rb.frozen 2
    have rc3 := HK9.out.rb.cell 3
    have rf3 := HK9.out.rb.frozen 3
    have rc4 := HK9.out.rb.cell 4
    have rf4 := HK9.out.rb.frozen 4
    have rc5 := HK9.out.rb.cell 5
    have rf5 := HK9.out.rb.frozen 5
    have rc6 := HK9.out.rb.cell 6
    have rf6 := HK9.out.rb.frozen 6
    have rc7 := HK9.out.rb.cell 7
    have rf7 := HK9.out.rb.frozen 7
    simp only [zero8, List.getElem?_toArray, List.getElem?_cons_zero, List.getElem?_cons_succ] at rc0 rc1 rc2 rc3 rc4 rc5 rc6 rc7
    have t0 := HK9.out.bx.cell 0
    have t1 := HK9.out.bx.cell 1
    have t2 := HK9.out.bx.cell 2
    have t3 := HK9.out.bx.cell 3
    have t4 := HK9.out.bx.cell 4
    have t5 := HK9.out.bx.cell 5
    have t6 := HK9.out.bx.cell 6
    have t7 := HK9.out.bx.cell 7
    by_cases hz : c = 0
    · have H0 := Lib.hid (show decR kind l = (kind - 128, ⟨v1, v2, v3, v4, v5, v6, v7⟩, 0) by rw [HD2.out, if_neg (by simpa using hz)])
      have hz2 : (c != 0) = false := by simpa using hz
      go_wp2
      refine dec_out rfl (g := w.heap.size) rfl rfl (put8 HK9.out.rb (.int .i64 (kind - 128)) (.int .i64 v1) (.int .i64 v2) (.int .i64 v3) (.string v4) (.int .i64 v5) (.bool v6) (.slice A7 v7.length cap7)) ?_
      unfold DecPost
      rw [H0.out]
      exact ⟨A7, cap7, b7, rfl, HJ9.out.blk (Nat.le_of_eq (size8 ..).symm) (fun h => heap8 (by have := HB7.out h; have := HK9.out.hG; have := HK9.out.hX; omega) ..), fun h => by have := HB7.out h; have := HK9.out.hG; have := HK9.out.hX; show w.heap.size ≤ b7; omega, bel8 HK9.out.bel (Nat.le_refl _) (.int .i64 (kind - 128)) (.int .i64 v1) (.int .i64 v2) (.int .i64 v3) (.string v4) (.int .i64 v5) (.bool v6) (.slice A7 v7.length cap7)⟩
    · have H0 := Lib.hid (show decR kind l = (0, rpZ, c) by rw [HD2.out, if_pos hz])
      have hz2 : (c != 0) = true := by simpa using hz
      go_wp2
      exact dec_out rfl (g := w.heap.size) rfl rfl (put8 HK9.out.rb (.int .i64 0) (.int .i64 0) (.int .i64 0) (.int .i64 0) (.string ⟨#[]⟩) (.int .i64 0) (.bool false) (.slice none 0 0)) (decPost_none H0.out (bel8 HK9.out.bel (Nat.le_refl _) (.int .i64 0) (.int .i64 0) (.int .i64 0) (.int .i64 0) (.string ⟨#[]⟩) (.int .i64 0) (.bool false) (.slice none 0 0)))
theorem dec_any (h : Byt w A len cap b off l) (hl : l.length ≤ 1000000) (kind : Int) : Calls Try.prog 11 #[.int .i64 kind, .slice A len cap] w (DecPost w kind l) := by
  by_cases hk : kind < 128 ∨ 139 < kind
  · exact dec_kind kind hk A len cap l
  · exact dec_read h hl kind (by omega) (by omega)
end
end Go.Proofs.Ytdoldjfabgcgbaa
