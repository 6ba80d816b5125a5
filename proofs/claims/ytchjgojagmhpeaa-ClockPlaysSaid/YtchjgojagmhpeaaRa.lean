/- The reference's clock: its time; whose alarm, at what time, in rows. -/
import Derived.Test.YtchjgojagmhpeaaSt
namespace Go.Proofs.Ytchjgojagmhpeaa
open Go.RowKit Go.Maps
open Go.Lib
set_option linter.unusedVariables false
set_option linter.unusedSimpArgs false
set_option maxRecDepth 20000
def whoV (L : List (Int × Int)) : List Value := L.map fun p => .int .i64 p.1
def atV (L : List (Int × Int)) : List Value := L.map fun p => .int .i64 p.2
structure Rc (w : World) (g : Nat) (now : Int) (L : List (Int × Int)) (A1 : Option Addr) (cap1 g1 : Nat) (A2 : Option Addr) (cap2 g2 : Nat) : Prop where
  bx : Blk w g 29 #[.int .i64 now, .slice A1 L.length cap1, .slice A2 L.length cap2]
  o1 : OwnG 3 w A1 cap1 g1 (whoV L)
  o2 : OwnG 3 w A2 cap2 g2 (atV L)
  n1 : g ≠ g1
  n2 : g ≠ g2
  n12 : g1 ≠ g2
/-- Three blocks may have turned. -/
structure T3 (w w' : World) (g g1 g2 : Nat) : Prop where
  os : w'.os = w.os
  tape : w'.tape = w.tape
  output : w'.output = w.output
  size : w.heap.size ≤ w'.heap.size
  block : ∀ j, j < w.heap.size → j ≠ g → j ≠ g1 → j ≠ g2 → w'.heap[j]? = w.heap[j]?
section
variable {w w' w2 : World} {g : Nat} {now : Int} {L : List (Int × Int)} {A1 A2 : Option Addr} {cap1 g1 cap2 g2 : Nat}
theorem T3.refl (w : World) (g g1 g2 : Nat) : T3 w w g g1 g2 := ⟨rfl, rfl, rfl, Nat.le_refl _, fun _ _ _ _ _ => rfl⟩
theorem T3.of (h : Below w.heap.size w w') : T3 w w' g g1 g2 := ⟨h.os, h.tape, h.output, h.size, fun j hj _ _ _ => h.block j hj⟩
theorem T3.trans (h : T3 w w' g g1 g2) (k : T3 w' w2 g g1 g2) : T3 w w2 g g1 g2 := ⟨k.os.trans h.os, k.tape.trans h.tape, k.output.trans h.output, Nat.le_trans h.size k.size, fun j hj a b c => (k.block j (Nat.lt_of_lt_of_le hj h.size) a b c).trans (h.block j hj a b c)⟩
theorem T3.set (h : T3 w w' g g1 g2) {p : Addr} (hp : p.block = g) (u : Value) : T3 w (w'.setCell p u) g g1 g2 := ⟨h.os, h.tape, h.output, by simpa [World.setCell] using h.size, fun j hj a b c => (Below.heap_setCell w' p u j (fun e => a (e.trans hp))).trans (h.block j hj a b c)⟩
theorem T3.below {B : Nat} (h : T3 w w' g g1 g2) (h0 : B ≤ g) (h1 : B ≤ g1) (h2 : B ≤ g2) (hB : B ≤ w.heap.size) : Below B w w' := ⟨h.os, h.tape, h.output, h.size, fun j hj => h.block j (by omega) (by omega) (by omega) (by omega)⟩
theorem Rc.c0 (h : Rc w g now L A1 cap1 g1 A2 cap2 g2) : w.cell? ⟨g, 0, none⟩ = some (.int .i64 now) := h.bx.cell 0
theorem Rc.c1 (h : Rc w g now L A1 cap1 g1 A2 cap2 g2) : w.cell? ⟨g, 1, none⟩ = some (.slice A1 L.length cap1) := h.bx.cell 1
theorem Rc.c2 (h : Rc w g now L A1 cap1 g1 A2 cap2 g2) : w.cell? ⟨g, 2, none⟩ = some (.slice A2 L.length cap2) := h.bx.cell 2
theorem Rc.keep (h : Rc w g now L A1 cap1 g1 A2 cap2 g2) (hs : w.heap.size ≤ w'.heap.size) (hb : ∀ j, j < w.heap.size → w'.heap[j]? = w.heap[j]?) : Rc w' g now L A1 cap1 g1 A2 cap2 g2 := by
  have ow : ∀ {A : Option Addr} {cap k : Nat} {l : List Value}, OwnG 3 w A cap k l → OwnG 3 w' A cap k l := fun {A cap k l} h => by
    rcases h with h | ⟨cur, e1, e2, e3, e4, e5⟩
    · exact .inl h
    · have : k < w.heap.size := by
        rcases Nat.lt_or_ge k w.heap.size with hlt | hge
        · exact hlt
        · rw [Array.getElem?_eq_none hge] at e4; cases e4
      exact .inr ⟨cur, e1, e2, e3, (hb k this).trans e4, e5⟩
  exact ⟨(hb g h.bx.lt).trans h.bx, ow h.o1, ow h.o2, h.n1, h.n2, h.n12⟩
theorem Rc.below (h : Rc w g now L A1 cap1 g1 A2 cap2 g2) (hb : Below w.heap.size w w') : Rc w' g now L A1 cap1 g1 A2 cap2 g2 := h.keep hb.size hb.block
theorem Rc.setNow (h : Rc w g now L A1 cap1 g1 A2 cap2 g2) (t : Int) : Rc (w.setCell ⟨g, 0, none⟩ (.int .i64 t)) g t L A1 cap1 g1 A2 cap2 g2 :=
  ⟨h.bx.set_ 0 _, h.o1.keep (Below.heap_setCell _ _ _ _ (Ne.symm h.n1)), h.o2.keep (Below.heap_setCell _ _ _ _ (Ne.symm h.n2)), h.n1, h.n2, h.n12⟩
theorem rtick_no (h : Rc w g now L A1 cap1 g1 A2 cap2 g2) (hr : 0 ≤ now ∧ now ≤ 1099511627776) (k : Int) (hk : k < 0 ∨ 1099511627776 - now < k) : Calls Try.prog 10 #[.pointer (some ⟨g, 0, none⟩), .int .i64 k] w fun e w' => e = .returned (.bool false) ∧ w' = w := by
  have c0 := h.c0
  obtain ⟨r1, r2⟩ := hr
  clear h
  by_cases k0 : k < 0
  · clear hk
    go_enter Try.func10, Try.ntmps10
    go_wp2
    go_ret
    exact ⟨rfl, rfl⟩
  · have k1 : k > 1099511627776 - now := by omega
    clear hk
    go_enter Try.func10, Try.ntmps10
    go_wp2
    go_ret
    exact ⟨rfl, rfl⟩
theorem rtick_yes (h : Rc w g now L A1 cap1 g1 A2 cap2 g2) (hr : 0 ≤ now ∧ now ≤ 1099511627776) (k : Int) (hk0 : 0 ≤ k) (hk : k ≤ 1099511627776 - now) : Calls Try.prog 10 #[.pointer (some ⟨g, 0, none⟩), .int .i64 k] w fun e w' => e = .returned (.bool true) ∧ Rc w' g (now + k) L A1 cap1 g1 A2 cap2 g2 ∧ T3 w w' g g1 g2 := by
  have c0 := h.c0
  have f0 := h.bx.frozen 0
  obtain ⟨r1, r2⟩ := hr
  have H2 := Lib.hid (h.setNow (now + k))
  have k1 : ¬ k > 1099511627776 - now := by omega
  clear h
  go_enter Try.func10, Try.ntmps10
  go_wp2
  go_ret
  exact ⟨rfl, H2.out, (T3.refl w g g1 g2).set rfl _⟩
/-- Whose alarm, at what time: the first that is found. -/
def look (x : Int) : List (Int × Int) → Option Int
  | [] => none
  | p :: L => if p.1 = x then some p.2 else look x L
theorem look_skip (x : Int) : ∀ (L : List (Int × Int)) (q : Nat), (∀ p ∈ L.take q, p.1 ≠ x) → look x L = look x (L.drop q)
  | L, 0, _ => by simp
  | [], q + 1, _ => by simp
  | p :: L, q + 1, h => by
    have h1 : p.1 ≠ x := h p (by simp)
    have h2 := look_skip x L q (fun r hr => h r (by simp [hr]))
    show (if p.1 = x then some p.2 else look x L) = look x (L.drop q)
    rw [if_neg h1, h2]
theorem whoV_get {L : List (Int × Int)} {q : Nat} {p : Int × Int} (h : L[q]? = some p) : (whoV L)[q]? = some (.int .i64 p.1) := by unfold whoV; rw [List.getElem?_map, h]; rfl
theorem atV_get {L : List (Int × Int)} {q : Nat} {p : Int × Int} (h : L[q]? = some p) : (atV L)[q]? = some (.int .i64 p.2) := by unfold atV; rw [List.getElem?_map, h]; rfl
set_option maxHeartbeats 4000000 in
theorem rat_any (h : Rc w g now L A1 cap1 g1 A2 cap2 g2) (hn : L.length ≤ 1000000) (x : Int) : Calls Try.prog 16 #[.pointer (some ⟨g, 0, none⟩), .int .i64 x] w fun e w' => e = .returned (.tuple #[.int .i64 ((look x L).getD 0), .bool (look x L).isSome]) ∧ w' = w := by
  have c1 := h.c1
  have c2 := h.c2
  have HR := Lib.hid h
  have hnI : (L.length : Int) ≤ 1000000 := by omega
  obtain ⟨r, hr⟩ : ∃ r, look x L = r := ⟨_, rfl⟩
  have HL := Lib.hid hr
  rw [hr]
  clear hr h
  go_enter Try.func16, Try.ntmps16
  go_wp2
  go_loop [6] (fun i => ∃ q : Nat, q ≤ L.length ∧ i = .int .i64 (q : Int) ∧ ∀ p ∈ L.take q, p.1 ≠ x) (fun i => L.length - (intOf i).toNat)
  case atStart => exact ⟨0, Nat.zero_le _, rfl, by simp⟩
  case round =>
    obtain ⟨q, hq, rfl, hall⟩ := hrel
    have HA := Lib.hid hall
    clear hall
    by_cases hql : q < L.length
    · obtain ⟨p, hp⟩ : ∃ p, L[q]? = some p := ⟨L[q], List.getElem?_eq_getElem _⟩
      obtain ⟨rfl, l1, b1, d1, f1⟩ := HR.out.o1.cell (whoV_get hp)
      obtain ⟨rfl, l2, b2, d2, f2⟩ := HR.out.o2.cell (atV_get hp)
      have hqI : (q : Int) < (L.length : Int) := by omega
      have HD := Lib.hid (show L.drop q = p :: L.drop (q + 1) from by
        obtain ⟨hlt, rfl⟩ := List.getElem?_eq_some_iff.1 hp
        exact List.drop_eq_getElem_cons hlt)
      have HT := Lib.hid (show L.take (q + 1) = L.take q ++ [p] from by rw [List.take_add_one, hp]; rfl)
      obtain ⟨pw, pa⟩ := p
      simp only at d1 d2
      clear hp l1 l2 b1 b2 f1 f2
      by_cases hx : pw = x
      · have H0 := Lib.hid (show r = some pa by rw [← HL.out, look_skip x L q HA.out, HD.out]; exact if_pos hx)
        have hb : (pw == x) = true := by simpa using hx
        clear hx
        go_wp2
        go_ret2
        rw [H0.out]
        exact ⟨rfl, rfl⟩
      · have hb : (pw == x) = false := by simpa using hx
        have HN := Lib.hid (show ∀ p ∈ L.take (q + 1), p.1 ≠ x by
          rw [HT.out]
          intro p hp
          rcases List.mem_append.1 hp with hp | hp
          · exact HA.out p hp
          · rw [List.mem_singleton.1 hp]; exact hx)
        clear hx
        go_wp2
        go_round
        case rel => exact ⟨q + 1, by omega, by go_num, HN.out⟩
        case measure => simp [intOf]; omega
    · obtain rfl : q = L.length := by omega
      have H0 := Lib.hid (show r = none by rw [← HL.out, look_skip x L _ HA.out, List.drop_length]; rfl)
      go_wp2
      go_ret2
      rw [H0.out]
      exact ⟨rfl, rfl⟩
def rdue (L : List (Int × Int)) (now x : Int) : Bool := match look x L with | some a => decide (a ≤ now) | none => false
theorem rdue_any (h : Rc w g now L A1 cap1 g1 A2 cap2 g2) (hn : L.length ≤ 1000000) (x : Int) : Calls Try.prog 19 #[.pointer (some ⟨g, 0, none⟩), .int .i64 x] w fun e w' => e = .returned (.bool (rdue L now x)) ∧ w' = w := by
  have c0 := h.c0
  have HL := Lib.hid (rat_any h hn x)
  unfold rdue
  cases hl : look x L with
  | none =>
    rw [hl] at HL
    simp only [Option.getD_none, Option.isSome_none] at HL
    clear h hl
    go_enter Try.func19, Try.ntmps19
    go_wp2_with fail
    refine HL.out.mono ?_
    rintro _ w1 ⟨rfl, rfl⟩
    go_wp2
    go_ret
    exact ⟨rfl, rfl⟩
  | some a =>
    rw [hl] at HL
    simp only [Option.getD_some, Option.isSome_some] at HL
    clear h hl
    go_enter Try.func19, Try.ntmps19
    go_wp2_with fail
    refine HL.out.mono ?_
    rintro _ w1 ⟨rfl, rfl⟩
    go_wp2
    go_ret
    exact ⟨rfl, rfl⟩
end
end Go.Proofs.Ytchjgojagmhpeaa
