/- ClockPlays: the code's clock and the reference's, side by side. -/
import Derived.Test.YtchjgojagmhpeaaRh
import Derived.Test.YtchjgojagmhpeaaRi
import Derived.Test.YtchjgojagmhpeaaRd
import Derived.Test.YtchjgojagmhpeaaRf
import Derived.Test.YtchjgojagmhpeaaSf
namespace Go.Proofs.Ytchjgojagmhpeaa
open Go.RowKit Go.Maps
open Go.Lib
open Go.ChangeMaps Go.MapKept
set_option linter.unusedVariables false
set_option linter.unusedSimpArgs false
set_option maxRecDepth 20000
/-- Both clocks lie apart, and nothing that was has turned. -/
structure Bo (w0 W : World) (R b : Nat) (now : Int) (n : Nat) (D : MD) (g : Nat) (m : Int) (L : List (Int × Int)) (A1 : Option Addr) (cap1 g1 : Nat) (A2 : Option Addr) (cap2 g2 : Nat) : Prop where
  cs : Cs w0 W R b now n D
  rc : Rc W g m L A1 cap1 g1 A2 cap2 g2
  aR : R ≠ g ∧ R ≠ g1 ∧ R ≠ g2
  ab : b ≠ g ∧ b ≠ g1 ∧ b ≠ g2
  ge : w0.heap.size ≤ g ∧ w0.heap.size ≤ g1 ∧ w0.heap.size ≤ g2
def Pw (w0 W : World) (R b : Nat) (now : Int) (n : Nat) (D : MD) (g : Nat) (m : Int) (L : List (Int × Int)) : Prop := ∃ A1 cap1 g1 A2 cap2 g2, Bo w0 W R b now n D g m L A1 cap1 g1 A2 cap2 g2
theorem Clk.off {w w' : World} {R b n : Nat} {now : Int} {D : MD} (h : Clk w R b now n D) (hR : w'.heap[R]? = w.heap[R]?) (hb : w'.heap[b]? = w.heap[b]?) : Clk w' R b now n D :=
  ⟨hR.trans h.box, by
    obtain ⟨es, clock, h1, F, hs, hD⟩ := h.own
    exact ⟨es, clock, hb.trans h1, F, hs, hD⟩, h.ne, h.is⟩
theorem own_off {w w' : World} {A : Option Addr} {cap k : Nat} {l : List Value} (h : OwnG 3 w A cap k l) (hb : k < w.heap.size → w'.heap[k]? = w.heap[k]?) : OwnG 3 w' A cap k l := by
  rcases h with h | ⟨cur, e1, e2, e3, e4, e5⟩
  · exact .inl h
  · have : k < w.heap.size := by
      rcases Nat.lt_or_ge k w.heap.size with hlt | hge
      · exact hlt
      · rw [Array.getElem?_eq_none hge] at e4; cases e4
    exact .inr ⟨cur, e1, e2, e3, (hb this).trans e4, e5⟩
theorem Rc.off {w w' : World} {g : Nat} {now : Int} {L : List (Int × Int)} {A1 A2 : Option Addr} {cap1 g1 cap2 g2 : Nat} (h : Rc w g now L A1 cap1 g1 A2 cap2 g2) (h0 : w'.heap[g]? = w.heap[g]?) (h1 : g1 < w.heap.size → w'.heap[g1]? = w.heap[g1]?) (h2 : g2 < w.heap.size → w'.heap[g2]? = w.heap[g2]?) : Rc w' g now L A1 cap1 g1 A2 cap2 g2 :=
  ⟨h0.trans h.bx, own_off h.o1 h1, own_off h.o2 h2, h.n1, h.n2, h.n12⟩
theorem nl_ls {w : World} {A : Option Addr} {cap g : Nat} {ys : List Int} (h : Ls w A cap g ys) : Nl w A cap g ys :=
  ⟨by
    cases ys with
    | nil => exact Nat.zero_le _
    | cons y ys => exact (h.get 0 y rfl).2.1, fun j x hj => by
    obtain ⟨h1, _, h3⟩ := h.get j x hj
    exact ⟨h1, cell_lt h3, h3⟩⟩
theorem nl_own {w : World} {A : Option Addr} {cap k : Nat} {L : List (Int × Int)} (h : OwnG 3 w A cap k (whoV L)) : Nl w A cap k (L.map Prod.fst) := by
  refine ⟨?_, fun j x hj => ?_⟩
  · rcases h with ⟨rfl, h2, h3⟩ | ⟨cur, e1, e2, e3, e4, e5, e6⟩
    · have : L = [] := by unfold whoV at h3; simpa using h3
      subst this
      exact Nat.zero_le _
    · unfold whoV at e2
      simpa using e2
  · have : (whoV L)[j]? = some (.int .i64 x) := by
      unfold whoV
      rw [List.getElem?_map] at hj ⊢
      cases hL : L[j]? with
      | none => rw [hL] at hj; cases hj
      | some p => rw [hL] at hj; cases hj; rfl
    obtain ⟨h1, h2, h3, h4, _⟩ := h.cell this
    exact ⟨h1, h3, h4⟩
section
variable {w0 W W' : World} {R b n n' g : Nat} {now now' m m' : Int} {D D' : MD} {L L' : List (Int × Int)}
theorem Pw.bel (h : Pw w0 W R b now n D g m L) : Below w0.heap.size w0 W := by
  obtain ⟨_, _, _, _, _, _, h⟩ := h
  exact h.cs.bel
theorem Pw.cs (h : Pw w0 W R b now n D g m L) : Cs w0 W R b now n D := by
  obtain ⟨_, _, _, _, _, _, h⟩ := h
  exact h.cs
theorem Pw.code (h : Pw w0 W R b now n D g m L) (h2 : Clk W' R b now' n' D') (ht : Tk W W' R b) : Pw w0 W' R b now' n' D' g m L := by
  obtain ⟨A1, cap1, g1, A2, cap2, g2, h⟩ := h
  refine ⟨A1, cap1, g1, A2, cap2, g2, h.cs.step h2 ht, h.rc.off (ht.block g h.rc.bx.lt h.aR.1.symm h.ab.1.symm) (fun hl => ht.block g1 hl h.aR.2.1.symm h.ab.2.1.symm) (fun hl => ht.block g2 hl h.aR.2.2.symm h.ab.2.2.symm), h.aR, h.ab, h.ge⟩
theorem Pw.below (h : Pw w0 W R b now n D g m L) (hb : Below W.heap.size W W') : Pw w0 W' R b now n D g m L := by
  obtain ⟨A1, cap1, g1, A2, cap2, g2, h⟩ := h
  exact ⟨A1, cap1, g1, A2, cap2, g2, ⟨h.cs.clk.kept hb, h.cs.geR, h.cs.geb, h.cs.bel.trans (hb.mono h.cs.bel.size)⟩, h.rc.below hb, h.aR, h.ab, h.ge⟩
theorem Pw.drewN (h : Pw w0 W R b now n D g m L) (k : Nat) : Pw w0 (W.drewN k) R b now n D g m L := h.below (below_drewN (Below.refl _ _) k)
theorem Pw.c0 (h : Pw w0 W R b now n D g m L) : W.cell? ⟨g, 0, none⟩ = some (.int .i64 m) := by
  obtain ⟨_, _, _, _, _, _, h⟩ := h
  exact h.rc.c0
theorem p_yes (h : Pw w0 W R b now n D g m L) (hr : 0 ≤ now ∧ now ≤ 1099511627776) (k now' : Int) (hk0 : 0 ≤ k) (hk : k ≤ 1099511627776 - now) (hn : now + k = now') : Calls Try.prog 9 #[.pointer (some ⟨R, 0, none⟩), .int .i64 k] W fun e w' => e = .returned (.bool true) ∧ Pw w0 w' R b now' n D g m L := by
  refine (tick_yes h.cs.clk hr k hk0 hk).mono ?_
  rintro _ w' ⟨rfl, h1, h2⟩
  rw [hn] at h1
  exact ⟨rfl, h.code h1 h2⟩
theorem p_no (h : Pw w0 W R b now n D g m L) (hr : 0 ≤ now ∧ now ≤ 1099511627776) (k : Int) (hk : k < 0 ∨ 1099511627776 - now < k) : Calls Try.prog 9 #[.pointer (some ⟨R, 0, none⟩), .int .i64 k] W fun e w' => e = .returned (.bool false) ∧ Pw w0 w' R b now n D g m L := by
  refine (tick_no h.cs.clk hr k hk).mono ?_
  rintro _ w' ⟨rfl, rfl⟩
  exact ⟨rfl, h⟩
theorem q_yes (h : Pw w0 W R b now n D g m L) (hr : 0 ≤ m ∧ m ≤ 1099511627776) (k m' : Int) (hk0 : 0 ≤ k) (hk : k ≤ 1099511627776 - m) (hn : m + k = m') : Calls Try.prog 10 #[.pointer (some ⟨g, 0, none⟩), .int .i64 k] W fun e w' => e = .returned (.bool true) ∧ Pw w0 w' R b now n D g m' L := by
  obtain ⟨A1, cap1, g1, A2, cap2, g2, h⟩ := h
  refine (rtick_yes h.rc hr k hk0 hk).mono ?_
  rintro _ w' ⟨rfl, h1, ht⟩
  rw [hn] at h1
  have hR := ht.block R h.cs.clk.lt.1 h.aR.1 h.aR.2.1 h.aR.2.2
  have hb := ht.block b h.cs.clk.lt.2 h.ab.1 h.ab.2.1 h.ab.2.2
  exact ⟨rfl, A1, cap1, g1, A2, cap2, g2, ⟨h.cs.clk.off hR hb, h.cs.geR, h.cs.geb, h.cs.bel.trans (ht.below h.ge.1 h.ge.2.1 h.ge.2.2 h.cs.bel.size)⟩, h1, h.aR, h.ab, h.ge⟩
theorem q_no (h : Pw w0 W R b now n D g m L) (hr : 0 ≤ m ∧ m ≤ 1099511627776) (k : Int) (hk : k < 0 ∨ 1099511627776 - m < k) : Calls Try.prog 10 #[.pointer (some ⟨g, 0, none⟩), .int .i64 k] W fun e w' => e = .returned (.bool false) ∧ Pw w0 w' R b now n D g m L := by
  have H := h
  obtain ⟨A1, cap1, g1, A2, cap2, g2, h⟩ := h
  refine (rtick_no h.rc hr k hk).mono ?_
  rintro _ w' ⟨rfl, rfl⟩
  exact ⟨rfl, H⟩
theorem p_set (h : Pw w0 W R b now n D g m L) (hn : n ≤ 1000000) (x v : Int) (hx : wf x) (hv : wf v) : Calls Try.prog 11 #[.pointer (some ⟨R, 0, none⟩), .int .i64 x, .int .i64 v] W fun e w' => e = .returned (.tuple #[]) ∧ Pw w0 w' R b now (n + 1) (D.put (.int .i64 x) (.lit (.int .i64 v))) g m L :=
  (set_any h.cs.clk hn x v hx hv).mono fun _ _ ⟨a, c, d⟩ => ⟨a, h.code c d⟩
theorem p_drop (h : Pw w0 W R b now n D g m L) (x : Int) (hx : wf x) (ok : Bool) (hok : (al D x).isSome = ok) : Calls Try.prog 13 #[.pointer (some ⟨R, 0, none⟩), .int .i64 x] W fun e w' => e = .returned (.bool ok) ∧ Pw w0 w' R b now n (D.del (.int .i64 x)) g m L :=
  (drop_any h.cs.clk x hx).mono fun _ _ ⟨a, c, d⟩ => ⟨by rw [a, hok], h.code c d⟩
theorem Pw.turn (h : Pw w0 W R b now n D g m L) {A3 A4 : Option Addr} {cap3 g3 cap4 g4 : Nat} (h1 : Rc W' g m' L' A3 cap3 g3 A4 cap4 g4) (h3 : W.heap.size ≤ g3) (h4 : W.heap.size ≤ g4) (ht : T3 W W' g g g) : Pw w0 W' R b now n D g m' L' := by
  obtain ⟨A1, cap1, g1, A2, cap2, g2, h⟩ := h
  have lR := h.cs.clk.lt.1
  have lb := h.cs.clk.lt.2
  have hR := ht.block R lR h.aR.1 h.aR.1 h.aR.1
  have hb := ht.block b lb h.ab.1 h.ab.1 h.ab.1
  have hs := h.cs.bel.size
  exact ⟨A3, cap3, g3, A4, cap4, g4, ⟨h.cs.clk.off hR hb, h.cs.geR, h.cs.geb, h.cs.bel.trans (ht.below h.ge.1 h.ge.1 h.ge.1 hs)⟩, h1, ⟨h.aR.1, by omega, by omega⟩, ⟨h.ab.1, by omega, by omega⟩, ⟨h.ge.1, by omega, by omega⟩⟩
theorem q_set (h : Pw w0 W R b now n D g m L) (hn : L.length ≤ 1000) (x v : Int) : Calls Try.prog 12 #[.pointer (some ⟨g, 0, none⟩), .int .i64 x, .int .i64 v] W fun e w' => e = .returned (.tuple #[]) ∧ Pw w0 w' R b now n D g m (dropL L x ++ [(x, v)]) := by
  have H := h
  obtain ⟨A1, cap1, g1, A2, cap2, g2, h⟩ := h
  refine (rset_any h.rc hn x v).mono ?_
  rintro _ w' ⟨rfl, A3, cap3, g3, A4, cap4, g4, h1, h3, h4, ht⟩
  exact ⟨rfl, H.turn h1 h3 h4 ht⟩
theorem drop_look : ∀ (L : List (Int × Int)) (x : Int), decide ((dropL L x).length < L.length) = (look x L).isSome
  | [], _ => rfl
  | p :: L, x => by
    have ih := drop_look L x
    have hle := dropL_le L x
    unfold dropL at *
    rw [List.filter_cons]
    by_cases e : p.1 = x
    · rw [if_neg (by simp [e])]
      show _ = (if p.1 = x then some p.2 else look x L).isSome
      rw [if_pos e]
      simp; omega
    · rw [if_pos (by simpa using e)]
      show _ = (if p.1 = x then some p.2 else look x L).isSome
      rw [if_neg e, ← ih]
      simp
theorem q_drop (h : Pw w0 W R b now n D g m L) (hl : Lk L D') (hn : L.length ≤ 1000) (x : Int) (ok : Bool) (hok : (al D' x).isSome = ok) : Calls Try.prog 14 #[.pointer (some ⟨g, 0, none⟩), .int .i64 x] W fun e w' => e = .returned (.bool ok) ∧ Pw w0 w' R b now n D g m (dropL L x) := by
  have H := h
  obtain ⟨A1, cap1, g1, A2, cap2, g2, h⟩ := h
  refine (rdrop_any h.rc hn x).mono ?_
  rintro _ w' ⟨rfl, A3, cap3, g3, A4, cap4, g4, h1, h3, h4, ht⟩
  exact ⟨by rw [drop_look, hl.look, hok], H.turn h1 h3 h4 ht⟩
theorem p_at (h : Pw w0 W R b now n D g m L) (x : Int) (hx : wf x) (r : Int) (s : Bool) (hr : (al D x).getD 0 = r) (hs : (al D x).isSome = s) : Calls Try.prog 15 #[.pointer (some ⟨R, 0, none⟩), .int .i64 x] W fun e w' => e = .returned (.tuple #[.int .i64 r, .bool s]) ∧ w' = W := by
  rw [← hr, ← hs]
  exact at_any h.cs.clk x hx
theorem q_at (h : Pw w0 W R b now n D g m L) (hl : Lk L D) (hn : L.length ≤ 1000) (x : Int) (r : Int) (s : Bool) (hr : (al D x).getD 0 = r) (hs : (al D x).isSome = s) : Calls Try.prog 16 #[.pointer (some ⟨g, 0, none⟩), .int .i64 x] W fun e w' => e = .returned (.tuple #[.int .i64 r, .bool s]) ∧ w' = W := by
  rw [← hr, ← hs, ← hl.look]
  obtain ⟨A1, cap1, g1, A2, cap2, g2, h⟩ := h
  exact rat_any h.rc (by omega) x
theorem p_now (h : Pw w0 W R b now n D g m L) : Calls Try.prog 17 #[.pointer (some ⟨R, 0, none⟩)] W fun e w' => e = .returned (.int .i64 now) ∧ w' = W := now_any h.cs.clk
theorem p_due (h : Pw w0 W R b now n D g m L) (x : Int) (hx : wf x) (v : Bool) (hv : dueB D now x = v) : Calls Try.prog 18 #[.pointer (some ⟨R, 0, none⟩), .int .i64 x] W fun e w' => e = .returned (.bool v) ∧ w' = W := by
  rw [← hv]
  exact due_any h.cs.clk x hx
theorem q_due (h : Pw w0 W R b now n D g m L) (hl : Lk L D) (hn : L.length ≤ 1000) (x : Int) (v : Bool) (hv : dueB D m x = v) : Calls Try.prog 19 #[.pointer (some ⟨g, 0, none⟩), .int .i64 x] W fun e w' => e = .returned (.bool v) ∧ w' = W := by
  rw [← hv, ← hl.due]
  obtain ⟨A1, cap1, g1, A2, cap2, g2, h⟩ := h
  exact rdue_any h.rc (by omega) x
/-- What All tells. -/
def AllOf (D : MD) (now : Int) (ys : List Int) : Prop := ys.Pairwise (ahd D) ∧ (∀ x, wf x → (x ∈ ys ↔ dueB D now x = true)) ∧ ∀ x ∈ ys, wf x
theorem p_all (HS : SortOK) (HN : SortNil) (h : Pw w0 W R b now n D g m L) (hn : n ≤ 1000000) : Calls Try.prog 21 #[.pointer (some ⟨R, 0, none⟩)] W fun e w' => ∃ A cap k ys, e = .returned (.slice A ys.length cap) ∧ Nl w' A cap k ys ∧ AllOf D now ys ∧ ys.length ≤ n ∧ Below W.heap.size W w' := by
  refine (all_any HS HN h.cs.clk hn).mono ?_
  rintro e w' ⟨A, cap, k, ys, rfl, h1, h2, h3, h4, h5, h6⟩
  exact ⟨A, cap, k, ys, rfl, nl_ls h1, ⟨h2, h3, h4⟩, h5, h6⟩
theorem q_all (h : Pw w0 W R b now n D g m L) (hl : Lk L D) (hn : L.length ≤ 1000) (ys : List Int) (ha : AllOf D m ys) : Calls Try.prog 22 #[.pointer (some ⟨g, 0, none⟩)] W fun e w' => ∃ A cap k, e = .returned (.slice A ys.length cap) ∧ Nl w' A cap k ys ∧ Below W.heap.size W w' := by
  obtain ⟨A1, cap1, g1, A2, cap2, g2, h⟩ := h
  refine (rall_any h.rc hn).mono ?_
  rintro e w' ⟨A, cap, k, rfl, h1, h2⟩
  have hy := rall_same hl ha.1 ha.2.1 ha.2.2
  refine ⟨A, cap, k, ?_, ?_, h2⟩
  · rw [← hy, List.length_map]
  · rw [← hy]
    exact nl_own h1
end
end Go.Proofs.Ytchjgojagmhpeaa
