/- PipePlays: its walk. -/
import Derived.Test.YtflhdpekmgpdfaaRef
import Derived.Deep.DrawnRows
import Derived.Deep.RegionHeld3
namespace Go.Proofs.Ytflhdpekmgpdfaa
open Go.RowKit Go.ChangeAt Go.ChangeShapes
set_option linter.unusedVariables false
set_option maxRecDepth 100000
attribute [local go_sem ↓] Go.wp_at_zero Go.wp_at_succ
/-- The pipe (block R, its row from B on) and the document's (block Q); nothing that was has turned. -/
def Bo (w0 w : World) (B R Q : Nat) (room : Int) (cl clq : Bool) (X Y : ByteArray) : Prop :=
  ∃ g, PS w B R room cl X.data.toList g ∧ Rp w Q room clq Y ∧ R ≠ Q ∧ R < B ∧ Q < B ∧ B ≤ w.heap.size ∧ w0.heap.size ≤ R ∧ w0.heap.size ≤ Q ∧ Below w0.heap.size w0 w
section
variable {w0 w : World} {B R Q : Nat} {room : Int} {cl clq : Bool} {X Y : ByteArray}
theorem Bo.below (h : Bo w0 w B R Q room cl clq X Y) : Below w0.heap.size w0 w := by
  obtain ⟨g, h1, h2, h3, h4, h5, h6, h7, h8, h9⟩ := h; exact h9
theorem Bo.ref (h : Bo w0 w B R Q room cl clq X Y) : Rp w Q room clq Y := by
  obtain ⟨g, h1, h2, h3, h4, h5, h6, h7, h8, h9⟩ := h; exact h2
theorem Bo.drewN (h : Bo w0 w B R Q room cl clq X Y) (n : Nat) : Bo w0 (w.drewN n) B R Q room cl clq X Y := by
  obtain ⟨g, h1, h2, h3, h4, h5, h6, h7, h8, h9⟩ := h
  exact ⟨g, h1.drewN n, h2.drewN n, h3, h4, h5, h6, h7, h8, below_drewN h9 n⟩
theorem Bo.drew (h : Bo w0 w B R Q room cl clq X Y) : Bo w0 w.drew B R Q room cl clq X Y := h.drewN 1
theorem Bo.real {w' : World} {g g' : Option Nat} {cl' : Bool} {X' : ByteArray} (h1 : PS w B R room cl X.data.toList g) (h2 : Rp w Q room clq Y) (h3 : R ≠ Q) (h4 : R < B) (h5 : Q < B) (h6 : B ≤ w.heap.size) (h7 : w0.heap.size ≤ R) (h8 : w0.heap.size ≤ Q) (h9 : Below w0.heap.size w0 w)
    (k1 : PS w' B R room cl' X'.data.toList g') (k2 : Eff w w' R g) : Bo w0 w' B R Q room cl' clq X' Y :=
  ⟨g', k1, (k2.block Q h2.lt h3.symm (fun e => by have := (h1.row Q e.symm).1; omega)).trans h2, h3, h4, h5, Nat.le_trans h6 k2.size, h7, h8, h9.trans (k2.below h7 (fun j hj => by have := (h1.row j hj).1; omega) h9.size)⟩
theorem Bo.refd {w' : World} {clq' : Bool} {Y' : ByteArray} (h : Bo w0 w B R Q room cl clq X Y) (k1 : Rp w' Q room clq' Y') (k2 : Eff w w' Q none) : Bo w0 w' B R Q room cl clq' X Y' := by
  obtain ⟨g, h1, h2, h3, h4, h5, h6, h7, h8, h9⟩ := h
  exact ⟨g, h1.far k2 h3 (by simp) (fun j hj => ⟨by have := (h1.row j hj).1; omega, by simp⟩), k1, h3, h4, h5, Nat.le_trans h6 k2.size, h7, h8, h9.trans (k2.below h8 (fun j hj => by cases hj) h9.size)⟩
theorem bo_put (h : Bo w0 w B R Q room cl clq X Y) (hs : X.size ≤ 1000000) (hr : 0 ≤ room ∧ room ≤ 9223372036854775807) (s : ByteArray) (hsz : s.size ≤ 1000000) (ok : Bool) (hok : (!cl && decide ((s.size : Int) ≤ room - (X.size : Int))) = ok) :
    Calls Try.prog 10 #[.pointer (some ⟨R, 0, none⟩), .string s] w fun e w' => e = .returned (.bool ok) ∧ Bo w0 w' B R Q room cl clq (bif ok then X ++ s else X) Y := by
  obtain ⟨g, h1, h2, h3, h4, h5, h6, h7, h8, h9⟩ := h
  refine (ps_put h1 (by rw [← bs_size]; exact hs) hr s hsz h6 ok (by rw [← bs_size]; exact hok)).mono ?_
  rintro _ w' ⟨rfl, g', q1, q2⟩
  refine ⟨rfl, Bo.real h1 h2 h3 h4 h5 h6 h7 h8 h9 (g' := g') ?_ q2⟩
  cases ok <;> simpa using q1
theorem bo_rput (h : Bo w0 w B R Q room cl clq X Y) (hs : Y.size ≤ 1000000) (hr : 0 ≤ room ∧ room ≤ 9223372036854775807) (s : ByteArray) (hsz : s.size ≤ 1000000) (ok : Bool) (hok : (!clq && decide ((s.size : Int) ≤ room - (Y.size : Int))) = ok) :
    Calls Try.prog 11 #[.pointer (some ⟨Q, 0, none⟩), .string s] w fun e w' => e = .returned (.bool ok) ∧ Bo w0 w' B R Q room cl clq X (bif ok then Y ++ s else Y) :=
  (rput_any h.ref hs hr s hsz ok hok).mono fun _ _ ⟨a, b, c⟩ => ⟨a, h.refd b c⟩
theorem take_min (X : ByteArray) (n : Int) (k : Nat) (hk : min (max n 0) (X.size : Int) = (k : Int)) : X.data.toList.take n.toNat = (X.extract 0 k).data.toList ∧ X.data.toList.drop n.toNat = (X.extract k X.size).data.toList := by
  rw [ext_take, ext_drop]
  have hl : X.data.toList.length = X.size := (bs_size X).symm
  by_cases h : n ≤ (X.size : Int)
  · have : n.toNat = k := by omega
    rw [this]
    exact ⟨rfl, rfl⟩
  · have h1 : k = X.size := by omega
    rw [List.take_of_length_le (by omega), List.drop_of_length_le (by omega), List.take_of_length_le (by omega), List.drop_of_length_le (by omega)]
    exact ⟨rfl, rfl⟩
theorem bo_take (h : Bo w0 w B R Q room cl clq X Y) (hs : X.size ≤ 1000000) (n : Int) (k : Nat) (hk : min (max n 0) (X.size : Int) = (k : Int)) (T Z : ByteArray) (hT : X.extract 0 k = T) (hZ : X.extract k X.size = Z) :
    Calls Try.prog 12 #[.pointer (some ⟨R, 0, none⟩), .int .i64 n] w fun e w' => e = .returned (.string T) ∧ Bo w0 w' B R Q room cl clq Z Y := by
  obtain ⟨g, h1, h2, h3, h4, h5, h6, h7, h8, h9⟩ := h
  obtain ⟨e1, e2⟩ := take_min X n k hk
  refine (ps_take h1 (by rw [← bs_size]; exact hs) n).mono ?_
  rintro _ w' ⟨rfl, g', q1, q2, q3⟩
  rw [e1, hT]
  rw [e2, hZ] at q1
  exact ⟨rfl, Bo.real h1 h2 h3 h4 h5 h6 h7 h8 h9 q1 q3⟩
theorem bo_rtake (h : Bo w0 w B R Q room cl clq X Y) (hs : Y.size ≤ 1000000) (n : Int) (k : Nat) (hk : min (max n 0) (Y.size : Int) = (k : Int)) (T Z : ByteArray) (hT : Y.extract 0 k = T) (hZ : Y.extract k Y.size = Z) :
    Calls Try.prog 13 #[.pointer (some ⟨Q, 0, none⟩), .int .i64 n] w fun e w' => e = .returned (.string T) ∧ Bo w0 w' B R Q room cl clq X Z := by
  subst hT hZ
  exact (rtake_go h.ref hs n k hk).mono fun _ _ ⟨a, b, c⟩ => ⟨a, h.refd b c⟩
theorem bo_close (h : Bo w0 w B R Q room cl clq X Y) : Calls Try.prog 14 #[.pointer (some ⟨R, 0, none⟩)] w fun e w' => e = .returned (.tuple #[]) ∧ Bo w0 w' B R Q room true clq X Y := by
  obtain ⟨g, h1, h2, h3, h4, h5, h6, h7, h8, h9⟩ := h
  refine (ps_close h1).mono ?_
  rintro _ w' ⟨rfl, q1, q2⟩
  exact ⟨rfl, Bo.real h1 h2 h3 h4 h5 h6 h7 h8 h9 q1 q2.weak⟩
theorem Bo.rclose (h : Bo w0 w B R Q room cl clq X Y) : Bo w0 (w.setCell ⟨Q, 2, none⟩ (.bool true)) B R Q room cl true X Y :=
  h.refd h.ref.put2 ((Eff.refl w Q none).setCell 2 _)
theorem bo_look (h : Bo w0 w B R Q room cl clq X Y) (hs : X.size ≤ 1000000) : Calls Try.prog 15 #[.pointer (some ⟨R, 0, none⟩)] w fun e w' => e = .returned (.string X) ∧ Bo w0 w' B R Q room cl clq X Y := by
  obtain ⟨g, h1, h2, h3, h4, h5, h6, h7, h8, h9⟩ := h
  refine (ps_look h1 (by rw [← bs_size]; exact hs)).mono ?_
  rintro _ w' ⟨rfl, g', q1, q2, q3⟩
  exact ⟨rfl, Bo.real h1 h2 h3 h4 h5 h6 h7 h8 h9 q1 q3⟩
theorem bo_len (h : Bo w0 w B R Q room cl clq X Y) (hs : X.size ≤ 1000000) : Calls Try.prog 16 #[.pointer (some ⟨R, 0, none⟩)] w fun e w' => e = .returned (.int .i64 (X.size : Int)) ∧ ∃ m, w' = w.drewN m := by
  obtain ⟨g, h1, h2, h3, h4, h5, h6, h7, h8, h9⟩ := h
  refine (ps_len h1 (by rw [← bs_size]; exact hs)).mono ?_
  rintro _ w' ⟨rfl, q1⟩
  exact ⟨by rw [← bs_size], q1⟩
theorem bo_room (h : Bo w0 w B R Q room cl clq X Y) (hs : X.size ≤ 1000000) (hr : 0 ≤ room ∧ room ≤ 9223372036854775807) : Calls Try.prog 17 #[.pointer (some ⟨R, 0, none⟩)] w fun e w' => e = .returned (.int .i64 (room - (X.size : Int))) ∧ ∃ m, w' = w.drewN m := by
  obtain ⟨g, h1, h2, h3, h4, h5, h6, h7, h8, h9⟩ := h
  refine (ps_room h1 (by rw [← bs_size]; exact hs) hr).mono ?_
  rintro _ w' ⟨rfl, q1⟩
  exact ⟨by rw [← bs_size], q1⟩
theorem bo_closed (h : Bo w0 w B R Q room cl clq X Y) : Calls Try.prog 18 #[.pointer (some ⟨R, 0, none⟩)] w fun e w' => e = .returned (.bool cl) ∧ w' = w := by
  obtain ⟨g, h1, h2, h3, h4, h5, h6, h7, h8, h9⟩ := h
  exact ps_closed h1
end
/-- The two pipes at the head of a round. -/
def Rel (w0 wr : World) (B R Q : Nat) (room : Int) (k : Nat) : Prop := ∃ cl X, Bo w0 wr B R Q room cl cl X X ∧ X.size ≤ 200 * k
set_option maxHeartbeats 8000000 in
theorem plays_go (w : World) (a0 room : Int) (hroom : max a0 0 = room) (hr : 0 ≤ room ∧ room ≤ 9223372036854775807) (A : Option Addr) (len cap blk off : Nat) (xs : Nat → Int × Int × ByteArray) (hA : Acts w A len blk off xs) (hcap : len ≤ cap) (hl : len ≤ 80) (hs : ∀ i, i < len → (xs i).2.2.size ≤ 200) :
    Calls Try.prog 3 #[.int .i64 a0, .slice A len cap] w fun e w' => e = .returned (.bool true) ∧ Below w.heap.size w w' := by
  have CF := Lib.hid first_any
  have HA := Lib.hid hA
  have HS := Lib.hid hs
  have HR := Lib.hid hroom
  have HRR := Lib.hid hr
  have H0 := Lib.hid (Below.refl w.heap.size w)
  clear hA hs hroom
  go_enter Try.func3, Try.ntmps3
  go_wp2_with (first
    | (go_at_call 6; refine (CF.out _).mono ?_; rintro _ w1 ⟨rfl, h1⟩; have H0 := Lib.hid (H0.out.trans (h1.mono H0.out.size)); clear h1)
    | (go_at_call 7; refine (light_yes _ _ _ _ _ _ _ (HA.out.keep H0.out) hl hcap HS.out).mono ?_; rintro _ w2 ⟨rfl, hw2⟩; replace hw2 := hw2.symm; subst hw2)
    | (go_at_call 8
       refine (ps_new _ _).mono ?_
       rintro _ w3 ⟨rfl, h1, h2⟩
       rw [HR.out] at h1
       have HP3 := Lib.hid h1
       have HG1 := Lib.hid H0.out.size
       have H3 := Lib.hid (H0.out.trans (h2.mono H0.out.size))
       have HL1 := Lib.hid (h1 0).lt
       generalize w1.heap.size = R at *
       clear h1 h2)
    | (go_at_call 9
       refine (rnew_any _ _).mono ?_
       rintro _ w4 ⟨rfl, h1, h2⟩
       rw [HR.out] at h1
       have HB4 := Lib.hid (show Bo w w4 w4.heap.size R w3.heap.size room false false ⟨#[]⟩ ⟨#[]⟩ from
         ⟨none, (HP3.out _).kept (row := none) ⟨h2.os, h2.tape, h2.output, h2.size, fun k hk _ => h2.block k hk⟩ (by simp) (.inl rfl), h1, Nat.ne_of_lt HL1.out, Nat.lt_of_lt_of_le HL1.out h2.size, h1.lt, Nat.le_refl _, HG1.out, H3.out.size, H3.out.trans (h2.mono H3.out.size)⟩)
       generalize w4.heap.size = B at *
       generalize w3.heap.size = Q at *
       clear h1 h2)
    | fail)
  go_loopw [7] (fun i wr => ∃ k : Nat, k ≤ len ∧ i = .int .i64 (k : Int) ∧ Rel w wr B R Q room k) (fun i _ => len - (intOf i).toNat)
  case atStart => exact ⟨0, Nat.zero_le _, rfl, false, _, HB4.out, by decide⟩
  case round =>
    obtain ⟨k, hk, rfl, cl, X, hbo, hX⟩ := hrel
    by_cases hlt : k < len
    · obtain ⟨c1, c2, c3, hm⟩ := (HA.out.keep hbo.below).2 k hlt
      obtain rfl := (HA.out.1 (by omega)).1
      have HC := Lib.hid (fun w' (h : Below w.heap.size w w') => (HA.out.keep h).2 k hlt)
      have hs := HS.out k hlt
      obtain ⟨op, hop⟩ : ∃ op, op = (xs k).1 := ⟨_, rfl⟩
      obtain ⟨n, hn⟩ : ∃ n, n = (xs k).2.1 := ⟨_, rfl⟩
      obtain ⟨s, hs'⟩ : ∃ s, s = (xs k).2.2 := ⟨_, rfl⟩
      rw [← hop] at c1 HC
      rw [← hn] at c2 HC
      rw [← hs'] at c3 hs HC
      clear hop hn hs' hm
      have HB := Lib.hid hbo
      have hX2 : X.size ≤ 1000000 := by omega
      have HXK := Lib.hid hX
      clear hbo hX
      by_cases o0 : op = 0
      · subst o0
        obtain ⟨ok, hok⟩ : ∃ ok, (!cl && decide ((s.size : Int) ≤ room - (X.size : Int))) = ok := ⟨_, rfl⟩
        have HOK := Lib.hid hok
        clear hok
        obtain ⟨Z, hZ⟩ : ∃ Z, (bif ok then X ++ s else X) = Z := ⟨_, rfl⟩
        have hZs : Z.size ≤ 200 * (k + 1) := by
          rw [← hZ]
          cases ok
          · have := HXK.out; simp only [cond_false]; omega
          · have := HXK.out; simp only [cond_true, ByteArray.size_append]; omega
        have HZ := Lib.hid hZ
        clear hZ
        go_wp2_with fail
        have c3d : wr.drew.cell? ⟨blk, off + k * 3 + 2, none⟩ = some (.string s) := c3
        go_region_held3 (fun w' => w'.cell? ⟨blk, off + k * 3 + 2, none⟩ = some (.string s)) (assumption) (first
          | (go_at_call 10
             (with_reducible refine (bo_put HB.out.drew hX2 HRR.out s (by omega) ok HOK.out).mono ?_)
             rintro _ w3 ⟨rfl, h1⟩
             rw [HZ.out] at h1
             have HB3 := Lib.hid h1
             obtain ⟨d1, d2, d3, _⟩ := HC.out _ h1.below
             clear h1 d1 d2)
          | (go_at_call 11
             (with_reducible refine (bo_rput HB3.out hX2 HRR.out s (by omega) ok HOK.out).mono ?_)
             rintro _ w5 ⟨rfl, h1⟩
             rw [HZ.out] at h1
             have HB5 := Lib.hid h1
             obtain ⟨e1, e2, e3, _⟩ := HC.out _ h1.below
             clear h1 e1 e2))
        all_goals
          have hZ5 : Z.size ≤ 1000000 := by omega
          have i1 : IntKind.i64.wrap (room - (Z.size : Int)) = room - (Z.size : Int) := by rw [IntWalk.i64_left, IntWalk.wrap64_in _ (by have := HRR.out; omega)]
          go_wp2_with fail
          have cq0 : w5.drew.cell? ⟨Q, 0, none⟩ = some (.int .i64 room) := HB5.out.ref.c0
          have cq1 : w5.drew.cell? ⟨Q, 1, none⟩ = some (.string Z) := HB5.out.ref.c1
          have cq2 : w5.drew.cell? ⟨Q, 2, none⟩ = some (.bool cl) := HB5.out.ref.c2
          go_region_held3 (fun w' => w'.cell? ⟨Q, 0, none⟩ = some (.int .i64 room) ∧ w'.cell? ⟨Q, 1, none⟩ = some (.string Z) ∧ w'.cell? ⟨Q, 2, none⟩ = some (.bool cl)) (refine ⟨?_, ?_, ?_⟩ <;> assumption) (first
            | (go_at_call 15
               (with_reducible refine (bo_look HB5.out.drew hZ5).mono ?_)
               rintro _ w6 ⟨rfl, h1⟩
               have HB6 := Lib.hid h1
               have dq0 : w6.cell? ⟨Q, 0, none⟩ = some (.int .i64 room) := h1.ref.c0
               have dq1 : w6.cell? ⟨Q, 1, none⟩ = some (.string Z) := h1.ref.c1
               have dq2 : w6.cell? ⟨Q, 2, none⟩ = some (.bool cl) := h1.ref.c2
               clear h1)
            | (go_at_call 16
               (with_reducible refine (bo_len HB6.out hZ5).mono ?_)
               rintro _ w7 ⟨rfl, m7, rfl⟩
               have eq0 : (w6.drewN m7).cell? ⟨Q, 0, none⟩ = some (.int .i64 room) := HB6.out.ref.c0
               have eq1 : (w6.drewN m7).cell? ⟨Q, 1, none⟩ = some (.string Z) := HB6.out.ref.c1
               have eq2 : (w6.drewN m7).cell? ⟨Q, 2, none⟩ = some (.bool cl) := HB6.out.ref.c2)
            | (go_at_call 17
               (with_reducible refine (bo_room (HB6.out.drewN _) hZ5 HRR.out).mono ?_)
               rintro _ w8 ⟨rfl, m8, rfl⟩
               have fq0 : (w6.drewN (m7 + m8)).cell? ⟨Q, 0, none⟩ = some (.int .i64 room) := HB6.out.ref.c0
               have fq1 : (w6.drewN (m7 + m8)).cell? ⟨Q, 1, none⟩ = some (.string Z) := HB6.out.ref.c1
               have fq2 : (w6.drewN (m7 + m8)).cell? ⟨Q, 2, none⟩ = some (.bool cl) := HB6.out.ref.c2)
            | (go_at_call 18
               (with_reducible refine (bo_closed (HB6.out.drewN _)).mono ?_)
               rintro _ w9 ⟨rfl, hw9⟩
               replace hw9 := hw9.symm
               subst hw9))
          all_goals (
            go_wp2_with fail
            exact ⟨⟨k + 1, by omega, by go_num, cl, Z, HB6.out.drewN _, hZs⟩, by simp [intOf]; omega⟩)
      · by_cases o1 : op = 1
        · subst o1
          obtain ⟨q, hq⟩ := Int.eq_ofNat_of_zero_le (show 0 ≤ min (max n 0) (X.size : Int) by omega)
          have HQ := Lib.hid hq
          clear hq
          obtain ⟨T, hT⟩ : ∃ T, X.extract 0 q = T := ⟨_, rfl⟩
          obtain ⟨Z, hZ⟩ : ∃ Z, X.extract q X.size = Z := ⟨_, rfl⟩
          have hZs : Z.size ≤ 200 * (k + 1) := by
            have := HXK.out
            rw [← hZ, ByteArray.size_extract]
            omega
          have HZ := Lib.hid hZ
          have HT := Lib.hid hT
          clear hZ hT
          go_wp2_with fail
          have c2d : wr.drew.cell? ⟨blk, off + k * 3 + 1, none⟩ = some (.int .i64 n) := c2
          go_region_held3 (fun w' => w'.cell? ⟨blk, off + k * 3 + 1, none⟩ = some (.int .i64 n)) (assumption) (first
            | (go_at_call 12
               (with_reducible refine (bo_take HB.out.drew hX2 n q HQ.out T Z HT.out HZ.out).mono ?_)
               rintro _ w3 ⟨rfl, h1⟩
               have HB3 := Lib.hid h1
               obtain ⟨d1, d2, d3, _⟩ := HC.out _ h1.below
               clear h1 d1 d3)
            | (go_at_call 13
               (with_reducible refine (bo_rtake HB3.out hX2 n q HQ.out T Z HT.out HZ.out).mono ?_)
               rintro _ w5 ⟨rfl, h1⟩
               have HB5 := Lib.hid h1
               obtain ⟨e1, e2, e3, _⟩ := HC.out _ h1.below
               clear h1 e1 e3))
          all_goals
            have hZ5 : Z.size ≤ 1000000 := by omega
            have i1 : IntKind.i64.wrap (room - (Z.size : Int)) = room - (Z.size : Int) := by rw [IntWalk.i64_left, IntWalk.wrap64_in _ (by have := HRR.out; omega)]
            go_wp2_with fail
            have cq0 : w5.drew.cell? ⟨Q, 0, none⟩ = some (.int .i64 room) := HB5.out.ref.c0
            have cq1 : w5.drew.cell? ⟨Q, 1, none⟩ = some (.string Z) := HB5.out.ref.c1
            have cq2 : w5.drew.cell? ⟨Q, 2, none⟩ = some (.bool cl) := HB5.out.ref.c2
            go_region_held3 (fun w' => w'.cell? ⟨Q, 0, none⟩ = some (.int .i64 room) ∧ w'.cell? ⟨Q, 1, none⟩ = some (.string Z) ∧ w'.cell? ⟨Q, 2, none⟩ = some (.bool cl)) (refine ⟨?_, ?_, ?_⟩ <;> assumption) (first
              | (go_at_call 15
                 (with_reducible refine (bo_look HB5.out.drew hZ5).mono ?_)
                 rintro _ w6 ⟨rfl, h1⟩
                 have HB6 := Lib.hid h1
                 have dq0 : w6.cell? ⟨Q, 0, none⟩ = some (.int .i64 room) := h1.ref.c0
                 have dq1 : w6.cell? ⟨Q, 1, none⟩ = some (.string Z) := h1.ref.c1
                 have dq2 : w6.cell? ⟨Q, 2, none⟩ = some (.bool cl) := h1.ref.c2
                 clear h1)
              | (go_at_call 16
                 (with_reducible refine (bo_len HB6.out hZ5).mono ?_)
                 rintro _ w7 ⟨rfl, m7, rfl⟩
                 have eq0 : (w6.drewN m7).cell? ⟨Q, 0, none⟩ = some (.int .i64 room) := HB6.out.ref.c0
                 have eq1 : (w6.drewN m7).cell? ⟨Q, 1, none⟩ = some (.string Z) := HB6.out.ref.c1
                 have eq2 : (w6.drewN m7).cell? ⟨Q, 2, none⟩ = some (.bool cl) := HB6.out.ref.c2)
              | (go_at_call 17
                 (with_reducible refine (bo_room (HB6.out.drewN _) hZ5 HRR.out).mono ?_)
                 rintro _ w8 ⟨rfl, m8, rfl⟩
                 have fq0 : (w6.drewN (m7 + m8)).cell? ⟨Q, 0, none⟩ = some (.int .i64 room) := HB6.out.ref.c0
                 have fq1 : (w6.drewN (m7 + m8)).cell? ⟨Q, 1, none⟩ = some (.string Z) := HB6.out.ref.c1
                 have fq2 : (w6.drewN (m7 + m8)).cell? ⟨Q, 2, none⟩ = some (.bool cl) := HB6.out.ref.c2)
              | (go_at_call 18
                 (with_reducible refine (bo_closed (HB6.out.drewN _)).mono ?_)
                 rintro _ w9 ⟨rfl, hw9⟩
                 replace hw9 := hw9.symm
                 subst hw9))
            all_goals (
              go_wp2_with fail
              exact ⟨⟨k + 1, by omega, by go_num, cl, Z, HB6.out.drewN _, hZs⟩, by simp [intOf]; omega⟩)
        · by_cases o2 : op = 2
          · subst o2
            have cf := HB.out.ref.f 2
            go_wp2_with (first
              | (go_at_call 14
                 (with_reducible refine (bo_close HB.out).mono ?_)
                 rintro _ w3 ⟨rfl, h1⟩
                 have cg := h1.ref.f 2
                 have ch := h1.ref.c2
                 have HB5 := Lib.hid h1.rclose
                 clear h1)
              | fail)
            generalize w3.setCell ⟨Q, 2, none⟩ (.bool true) = w5 at *
            have hZ5 : X.size ≤ 1000000 := by omega
            have i1 : IntKind.i64.wrap (room - (X.size : Int)) = room - (X.size : Int) := by rw [IntWalk.i64_left, IntWalk.wrap64_in _ (by have := HRR.out; omega)]
            go_wp2_with fail
            have cq0 : w5.drew.cell? ⟨Q, 0, none⟩ = some (.int .i64 room) := HB5.out.ref.c0
            have cq1 : w5.drew.cell? ⟨Q, 1, none⟩ = some (.string X) := HB5.out.ref.c1
            have cq2 : w5.drew.cell? ⟨Q, 2, none⟩ = some (.bool true) := HB5.out.ref.c2
            go_region_held3 (fun w' => w'.cell? ⟨Q, 0, none⟩ = some (.int .i64 room) ∧ w'.cell? ⟨Q, 1, none⟩ = some (.string X) ∧ w'.cell? ⟨Q, 2, none⟩ = some (.bool true)) (refine ⟨?_, ?_, ?_⟩ <;> assumption) (first
              | (go_at_call 15
                 (with_reducible refine (bo_look HB5.out.drew hZ5).mono ?_)
                 rintro _ w6 ⟨rfl, h1⟩
                 have HB6 := Lib.hid h1
                 have dq0 : w6.cell? ⟨Q, 0, none⟩ = some (.int .i64 room) := h1.ref.c0
                 have dq1 : w6.cell? ⟨Q, 1, none⟩ = some (.string X) := h1.ref.c1
                 have dq2 : w6.cell? ⟨Q, 2, none⟩ = some (.bool true) := h1.ref.c2
                 clear h1)
              | (go_at_call 16
                 (with_reducible refine (bo_len HB6.out hZ5).mono ?_)
                 rintro _ w7 ⟨rfl, m7, rfl⟩
                 have eq0 : (w6.drewN m7).cell? ⟨Q, 0, none⟩ = some (.int .i64 room) := HB6.out.ref.c0
                 have eq1 : (w6.drewN m7).cell? ⟨Q, 1, none⟩ = some (.string X) := HB6.out.ref.c1
                 have eq2 : (w6.drewN m7).cell? ⟨Q, 2, none⟩ = some (.bool true) := HB6.out.ref.c2)
              | (go_at_call 17
                 (with_reducible refine (bo_room (HB6.out.drewN _) hZ5 HRR.out).mono ?_)
                 rintro _ w8 ⟨rfl, m8, rfl⟩
                 have fq0 : (w6.drewN (m7 + m8)).cell? ⟨Q, 0, none⟩ = some (.int .i64 room) := HB6.out.ref.c0
                 have fq1 : (w6.drewN (m7 + m8)).cell? ⟨Q, 1, none⟩ = some (.string X) := HB6.out.ref.c1
                 have fq2 : (w6.drewN (m7 + m8)).cell? ⟨Q, 2, none⟩ = some (.bool true) := HB6.out.ref.c2)
              | (go_at_call 18
                 (with_reducible refine (bo_closed (HB6.out.drewN _)).mono ?_)
                 rintro _ w9 ⟨rfl, hw9⟩
                 replace hw9 := hw9.symm
                 subst hw9))
            all_goals (
              go_wp2_with fail
              exact ⟨⟨k + 1, by omega, by go_num, true, X, HB6.out.drewN _, (by have := HXK.out; omega)⟩, by simp [intOf]; omega⟩)
          · obtain ⟨w5, rfl⟩ : ∃ w5, w5 = wr := ⟨_, rfl⟩
            have HB5 := HB
            have hZ5 : X.size ≤ 1000000 := by omega
            have i1 : IntKind.i64.wrap (room - (X.size : Int)) = room - (X.size : Int) := by rw [IntWalk.i64_left, IntWalk.wrap64_in _ (by have := HRR.out; omega)]
            go_wp2_with fail
            have cq0 : w5.drew.cell? ⟨Q, 0, none⟩ = some (.int .i64 room) := HB5.out.ref.c0
            have cq1 : w5.drew.cell? ⟨Q, 1, none⟩ = some (.string X) := HB5.out.ref.c1
            have cq2 : w5.drew.cell? ⟨Q, 2, none⟩ = some (.bool cl) := HB5.out.ref.c2
            go_region_held3 (fun w' => w'.cell? ⟨Q, 0, none⟩ = some (.int .i64 room) ∧ w'.cell? ⟨Q, 1, none⟩ = some (.string X) ∧ w'.cell? ⟨Q, 2, none⟩ = some (.bool cl)) (refine ⟨?_, ?_, ?_⟩ <;> assumption) (first
              | (go_at_call 15
                 (with_reducible refine (bo_look HB5.out.drew hZ5).mono ?_)
                 rintro _ w6 ⟨rfl, h1⟩
                 have HB6 := Lib.hid h1
                 have dq0 : w6.cell? ⟨Q, 0, none⟩ = some (.int .i64 room) := h1.ref.c0
                 have dq1 : w6.cell? ⟨Q, 1, none⟩ = some (.string X) := h1.ref.c1
                 have dq2 : w6.cell? ⟨Q, 2, none⟩ = some (.bool cl) := h1.ref.c2
                 clear h1)
              | (go_at_call 16
                 (with_reducible refine (bo_len HB6.out hZ5).mono ?_)
                 rintro _ w7 ⟨rfl, m7, rfl⟩
                 have eq0 : (w6.drewN m7).cell? ⟨Q, 0, none⟩ = some (.int .i64 room) := HB6.out.ref.c0
                 have eq1 : (w6.drewN m7).cell? ⟨Q, 1, none⟩ = some (.string X) := HB6.out.ref.c1
                 have eq2 : (w6.drewN m7).cell? ⟨Q, 2, none⟩ = some (.bool cl) := HB6.out.ref.c2)
              | (go_at_call 17
                 (with_reducible refine (bo_room (HB6.out.drewN _) hZ5 HRR.out).mono ?_)
                 rintro _ w8 ⟨rfl, m8, rfl⟩
                 have fq0 : (w6.drewN (m7 + m8)).cell? ⟨Q, 0, none⟩ = some (.int .i64 room) := HB6.out.ref.c0
                 have fq1 : (w6.drewN (m7 + m8)).cell? ⟨Q, 1, none⟩ = some (.string X) := HB6.out.ref.c1
                 have fq2 : (w6.drewN (m7 + m8)).cell? ⟨Q, 2, none⟩ = some (.bool cl) := HB6.out.ref.c2)
              | (go_at_call 18
                 (with_reducible refine (bo_closed (HB6.out.drewN _)).mono ?_)
                 rintro _ w9 ⟨rfl, hw9⟩
                 replace hw9 := hw9.symm
                 subst hw9))
            all_goals (
              go_wp2_with fail
              exact ⟨⟨k + 1, by omega, by go_num, cl, X, HB6.out.drewN _, (by have := HXK.out; omega)⟩, by simp [intOf]; omega⟩)
    · have HB := Lib.hid hbo
      clear hbo
      go_wp2
      go_ret
      exact ⟨rfl, HB.out.below⟩
theorem plays_dark (w : World) (a0 : Int) (A : Option Addr) (len cap : Nat) (hno : ∀ w', Below w.heap.size w w' → Calls Try.prog 7 #[.slice A len cap] w' fun e w2 => e = .returned (.bool false) ∧ w2 = w') :
    Calls Try.prog 3 #[.int .i64 a0, .slice A len cap] w fun e w' => e = .returned (.bool true) ∧ Below w.heap.size w w' := by
  have CF := Lib.hid first_any
  have HN := Lib.hid hno
  have H0 := Lib.hid (Below.refl w.heap.size w)
  clear hno
  go_enter Try.func3, Try.ntmps3
  go_wp2_with (first
    | (go_at_call 6; refine (CF.out _).mono ?_; rintro _ w1 ⟨rfl, h1⟩; have H0 := Lib.hid (H0.out.trans (h1.mono H0.out.size)); clear h1)
    | (go_at_call 7; refine (HN.out _ H0.out).mono ?_; rintro _ w2 ⟨rfl, hw2⟩; replace hw2 := hw2.symm; subst hw2)
    | fail)
  go_ret
  exact ⟨rfl, H0.out⟩
/-- Is the list light, and what light tells. -/
theorem light_ways (w : World) (A : Option Addr) (len cap b off : Nat) (xs : Nat → Int × Int × ByteArray) (hA : Acts w A len b off xs) (hcap : len ≤ cap) :
    (len ≤ 80 ∧ ∀ i, i < len → (xs i).2.2.size ≤ 200) ∨ ∀ w', Below w.heap.size w w' → Calls Try.prog 7 #[.slice A len cap] w' fun e w2 => e = .returned (.bool false) ∧ w2 = w' := by
  by_cases h1 : 80 < len
  · exact .inr fun w' _ => light_big w' A len cap h1
  · by_cases h2 : ∀ i, i < len → (xs i).2.2.size ≤ 200
    · exact .inl ⟨by omega, h2⟩
    · simp only [Classical.not_forall] at h2
      obtain ⟨j, hj, h3⟩ := h2
      exact .inr fun w' hb => light_no w' A len cap b off xs (hA.keep hb) (by omega) hcap j hj (by omega)
theorem wf_i64 {a : Int} (w : (Lit.int .i64 a).wf = true) : -9223372036854775808 ≤ a ∧ a ≤ 9223372036854775807 := by simpa [Lit.wf, IntKind.min, IntKind.max, IntKind.signed, IntKind.bits] using w
theorem pipePlays_walk (w : World) (a0 : Int) (w0 : (Lit.int .i64 a0).wf = true) (A1 : Option Addr) (len1 cap1 : Nat) (S1 : Sh.ok w (Sh.slice 3 (Sh.agg 3 [(0, 1, (Sh.int .i64)), (1, 1, (Sh.int .i64)), (2, 1, Sh.str)])) [.slice A1 len1 cap1]) :
    Calls Try.prog 3 #[.int .i64 a0, .slice A1 len1 cap1] w fun e w' => e = .returned (.bool true) ∧ Below w.heap.size w w' := by
  obtain ⟨b, off, xs, hl, hm, hA⟩ := acts_of S1
  have hw := wf_i64 w0
  rcases light_ways w A1 len1 cap1 b off xs hA hl with ⟨h1, h2⟩ | h
  · exact plays_go w a0 (max a0 0) rfl (by omega) A1 len1 cap1 b off xs hA hl h1 h2
  · exact plays_dark w a0 A1 len1 cap1 h
end Go.Proofs.Ytflhdpekmgpdfaa
