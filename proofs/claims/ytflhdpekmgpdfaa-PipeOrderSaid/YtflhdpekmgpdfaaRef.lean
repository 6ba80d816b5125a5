/- The document's own pipe: its methods; the law's look at how much is put. -/
import Derived.Test.YtflhdpekmgpdfaaCut
namespace Go.Proofs.Ytflhdpekmgpdfaa
open Go.RowKit Go.ChangeAt Go.ChangeShapes
set_option linter.unusedVariables false
set_option maxRecDepth 100000
def Rp (w : World) (Q : Nat) (room : Int) (cl : Bool) (X : ByteArray) : Prop := Blk w Q 34 #[.int .i64 room, .string X, .bool cl]
section
variable {w : World} {Q : Nat} {room : Int} {cl : Bool} {X : ByteArray}
theorem Rp.c0 (h : Rp w Q room cl X) : w.cell? ⟨Q, 0, none⟩ = some (.int .i64 room) := h.cell 0
theorem Rp.c1 (h : Rp w Q room cl X) : w.cell? ⟨Q, 1, none⟩ = some (.string X) := h.cell 1
theorem Rp.c2 (h : Rp w Q room cl X) : w.cell? ⟨Q, 2, none⟩ = some (.bool cl) := h.cell 2
theorem Rp.f (h : Rp w Q room cl X) (i : Nat) : w.frozen? ⟨Q, i, none⟩ = false := h.frozen i
theorem Rp.drewN (h : Rp w Q room cl X) (n : Nat) : Rp (w.drewN n) Q room cl X := h
theorem Rp.put1 (h : Rp w Q room cl X) (Y : ByteArray) : Rp (w.setCell ⟨Q, 1, none⟩ (.string Y)) Q room cl Y := Blk.set_ h 1 _
theorem Rp.put2 (h : Rp w Q room cl X) : Rp (w.setCell ⟨Q, 2, none⟩ (.bool true)) Q room true X := Blk.set_ h 2 _
theorem rnew_any (w : World) (m : Int) : Calls Try.prog 9 #[.int .i64 m] w fun e w' => e = .returned (.pointer (some ⟨w.heap.size, 0, none⟩)) ∧ Rp w' w.heap.size (max m 0) false ⟨#[]⟩ ∧ Below w.heap.size w w' := by
  go_enter Try.func9, Try.ntmps9
  go_wp2
  all_goals (
    go_ret
    refine ⟨rfl, ?_, (Below.refl _ _).alloc (Nat.le_refl _) _⟩
    first
      | (rw [show max m 0 = 0 by omega]; exact Blk.new _ _ _)
      | (rw [show max m 0 = m by omega]; exact Blk.new _ _ _))
theorem rput_closed (h : Rp w Q room true X) (s : ByteArray) : Calls Try.prog 11 #[.pointer (some ⟨Q, 0, none⟩), .string s] w fun e w' => e = .returned (.bool false) ∧ ∃ m, w' = w.drewN m := by
  have c2 := h.c2
  clear h
  go_enter Try.func11, Try.ntmps11
  go_wp2
  go_quiet (fail)
  go_wp2
  go_ret
  exact ⟨rfl, _, rfl⟩
theorem rput_no (h : Rp w Q room false X) (hs : X.size ≤ 1000000) (hr : 0 ≤ room ∧ room ≤ 9223372036854775807) (s : ByteArray) (hsz : s.size ≤ 1000000) (hf : ¬ (s.size : Int) ≤ room - (X.size : Int)) :
    Calls Try.prog 11 #[.pointer (some ⟨Q, 0, none⟩), .string s] w fun e w' => e = .returned (.bool false) ∧ ∃ m, w' = w.drewN m := by
  have c0 := h.c0
  have c1 := h.c1
  have c2 := h.c2
  have i1 : IntKind.i64.wrap (room - (X.size : Int)) = room - (X.size : Int) := by rw [IntWalk.i64_left, IntWalk.wrap64_in _ (by omega)]
  have i2 : (room - (X.size : Int) < (s.size : Int)) := by omega
  clear h hr hf
  go_enter Try.func11, Try.ntmps11
  go_wp2
  go_quiet (fail)
  go_wp2
  go_ret
  exact ⟨rfl, _, rfl⟩
theorem rput_yes (h : Rp w Q room false X) (hs : X.size ≤ 1000000) (hr : 0 ≤ room ∧ room ≤ 9223372036854775807) (s : ByteArray) (hsz : s.size ≤ 1000000) (hf : (s.size : Int) ≤ room - (X.size : Int)) :
    Calls Try.prog 11 #[.pointer (some ⟨Q, 0, none⟩), .string s] w fun e w' => e = .returned (.bool true) ∧ Rp w' Q room false (X ++ s) ∧ Eff w w' Q none := by
  have c0 := h.c0
  have c1 := h.c1
  have c2 := h.c2
  have f1 := h.f 1
  have H := Lib.hid h
  have i1 : IntKind.i64.wrap (room - (X.size : Int)) = room - (X.size : Int) := by rw [IntWalk.i64_left, IntWalk.wrap64_in _ (by omega)]
  have i2 : ¬ (room - (X.size : Int) < (s.size : Int)) := by omega
  have i3 : ¬ (9223372036854775807 < X.size + s.size) := by omega
  clear h hr hf
  go_enter Try.func11, Try.ntmps11
  go_wp2
  go_quiet (fail)
  go_wp2
  go_ret
  exact ⟨rfl, (H.out.drewN _).put1 _, ((Eff.refl w Q none).drewN _).setCell 1 _⟩
theorem rput_any (h : Rp w Q room cl X) (hs : X.size ≤ 1000000) (hr : 0 ≤ room ∧ room ≤ 9223372036854775807) (s : ByteArray) (hsz : s.size ≤ 1000000) (ok : Bool) (hok : (!cl && decide ((s.size : Int) ≤ room - (X.size : Int))) = ok) :
    Calls Try.prog 11 #[.pointer (some ⟨Q, 0, none⟩), .string s] w fun e w' => e = .returned (.bool ok) ∧ Rp w' Q room cl (bif ok then X ++ s else X) ∧ Eff w w' Q none := by
  cases cl with
  | true =>
    have : ok = false := by rw [← hok]; rfl
    subst this
    exact (rput_closed h s).mono fun _ _ ⟨a, m, b⟩ => ⟨a, by rw [b]; exact h.drewN m, by rw [b]; exact (Eff.refl _ _ _).drewN m⟩
  | false =>
    by_cases hf : (s.size : Int) ≤ room - (X.size : Int)
    · have : ok = true := by rw [← hok]; simp only [Bool.not_false, Bool.true_and]; exact decide_eq_true hf
      subst this
      exact rput_yes h hs hr s hsz hf
    · have : ok = false := by rw [← hok]; simp only [Bool.not_false, Bool.true_and]; exact decide_eq_false hf
      subst this
      exact (rput_no h hs hr s hsz hf).mono fun _ _ ⟨a, m, b⟩ => ⟨a, by rw [b]; exact h.drewN m, by rw [b]; exact (Eff.refl _ _ _).drewN m⟩
theorem ext_full (X : ByteArray) : X.extract 0 X.size = X := by
  apply bs_ext
  simp
theorem ext_zero (X : ByteArray) : X.extract 0 0 = ByteArray.empty := by
  apply bs_ext
  simp
theorem rtake_go (h : Rp w Q room cl X) (hs : X.size ≤ 1000000) (n : Int) (k : Nat) (hk : min (max n 0) (X.size : Int) = (k : Int)) :
    Calls Try.prog 13 #[.pointer (some ⟨Q, 0, none⟩), .int .i64 n] w fun e w' => e = .returned (.string (X.extract 0 k)) ∧ Rp w' Q room cl (X.extract k X.size) ∧ Eff w w' Q none := by
  have c1 := h.c1
  have f1 := h.f 1
  have H := Lib.hid h
  have hk2 : k ≤ X.size := by omega
  have hk3 : (k : Int) ≤ (X.size : Int) := by omega
  clear h
  by_cases n0 : n < 0
  · have : k = 0 := by omega
    subst this
    clear hk
    rw [ext_zero]
    go_enter Try.func13, Try.ntmps13
    go_wp2
    all_goals (try omega)
    all_goals (
      go_ret
      exact ⟨rfl, by rw [ext_full]; exact H.out.put1 _, (Eff.refl w Q none).setCell 1 _⟩)
  · by_cases n1 : n ≤ (X.size : Int)
    · have : n = (k : Int) := by omega
      subst this
      clear hk
      go_enter Try.func13, Try.ntmps13
      go_wp2
      all_goals (try omega)
      all_goals (
        go_ret
        exact ⟨rfl, H.out.put1 _, (Eff.refl w Q none).setCell 1 _⟩)
    · have : X.size = k := by omega
      subst this
      clear hk
      go_enter Try.func13, Try.ntmps13
      go_wp2
      all_goals (try omega)
      all_goals (
        go_ret
        exact ⟨rfl, H.out.put1 _, (Eff.refl w Q none).setCell 1 _⟩)
end
/-- Acts that came in: two numbers and a text each. -/
def Acts (w : World) (A : Option Addr) (len b off : Nat) (xs : Nat → Int × Int × ByteArray) : Prop :=
  (0 < len → A = some ⟨b, off, none⟩ ∧ b < w.heap.size) ∧ ∀ i, i < len → w.cell? ⟨b, off + i * 3, none⟩ = some (.int .i64 (xs i).1) ∧ w.cell? ⟨b, off + i * 3 + 1, none⟩ = some (.int .i64 (xs i).2.1) ∧ w.cell? ⟨b, off + i * 3 + 2, none⟩ = some (.string (xs i).2.2) ∧ (xs i).2.2.size ≤ maxLen
theorem acts_of {w : World} {A : Option Addr} {len cap : Nat} (S : Sh.ok w (Sh.slice 3 (Sh.agg 3 [(0, 1, (Sh.int .i64)), (1, 1, (Sh.int .i64)), (2, 1, Sh.str)])) [.slice A len cap]) :
    ∃ b off xs, len ≤ cap ∧ cap ≤ maxLen ∧ Acts w A len b off xs := by
  obtain ⟨b, off, hl, hm, hA, hc⟩ := slice_at S (by omega)
  have h : ∀ i, ∃ x : Int × Int × ByteArray, i < len → w.cell? ⟨b, off + i * 3, none⟩ = some (.int .i64 x.1) ∧ w.cell? ⟨b, off + i * 3 + 1, none⟩ = some (.int .i64 x.2.1) ∧ w.cell? ⟨b, off + i * 3 + 2, none⟩ = some (.string x.2.2) ∧ x.2.2.size ≤ maxLen := by
    intro i
    by_cases hi : i < len
    · obtain ⟨cs, hlen, hok, hat⟩ := hc i hi
      simp only [Sh.ok, Sh.okAll] at hok
      obtain ⟨_, ⟨x, e1, w1⟩, ⟨y, e2, w2⟩, ⟨z, e3, w3⟩, _⟩ := hok
      have hl2 : ∃ c0 c1 c2, cs = [c0, c1, c2] := by
        match cs, hlen with
        | [c0, c1, c2], _ => exact ⟨c0, c1, c2, rfl⟩
      obtain ⟨c0, c1, c2, rfl⟩ := hl2
      simp at e1 e2 e3
      subst e1 e2 e3
      exact ⟨(x, y, z), fun _ => ⟨hat 0 (by omega), hat 1 (by omega), hat 2 (by omega), w3⟩⟩
    · exact ⟨(0, 0, ⟨#[]⟩), fun h => absurd h hi⟩
  exact ⟨b, off, fun i => (h i).choose, hl, hm, hA, fun i hi => (h i).choose_spec hi⟩
theorem Acts.keep {w w' : World} {A : Option Addr} {len b off : Nat} {xs : Nat → Int × Int × ByteArray} (h : Acts w A len b off xs) (hb : Below w.heap.size w w') : Acts w' A len b off xs :=
  ⟨fun hl => ⟨(h.1 hl).1, Nat.lt_of_lt_of_le (h.1 hl).2 hb.size⟩, fun i hi => by
    obtain ⟨h1, h2, h3, h4⟩ := h.2 i hi
    have hlt := (h.1 (by omega)).2
    exact ⟨by rw [hb.cell (p := ⟨b, _, none⟩) hlt]; exact h1, by rw [hb.cell (p := ⟨b, _, none⟩) hlt]; exact h2, by rw [hb.cell (p := ⟨b, _, none⟩) hlt]; exact h3, h4⟩⟩
theorem light_big (w : World) (A : Option Addr) (len cap : Nat) (h : 80 < len) : Calls Try.prog 7 #[.slice A len cap] w fun e w' => e = .returned (.bool false) ∧ w' = w := by
  go_enter Try.func7, Try.ntmps7
  go_wp2
  go_ret
  exact ⟨rfl, rfl⟩
theorem light_yes (w : World) (A : Option Addr) (len cap b off : Nat) (xs : Nat → Int × Int × ByteArray) (hA : Acts w A len b off xs) (hl : len ≤ 80) (hcap : len ≤ cap) (hs : ∀ i, i < len → (xs i).2.2.size ≤ 200) :
    Calls Try.prog 7 #[.slice A len cap] w fun e w' => e = .returned (.bool true) ∧ w' = w := by
  have HA := Lib.hid hA
  have HS := Lib.hid hs
  clear hA hs
  go_enter Try.func7, Try.ntmps7
  go_wp2
  go_loop [3] (fun i => ∃ k : Nat, k ≤ len ∧ i = .int .i64 (k : Int)) (fun i => len - (intOf i).toNat)
  case atStart => exact ⟨0, Nat.zero_le _, rfl⟩
  case round =>
    obtain ⟨k, hk, rfl⟩ := hrel
    by_cases hlt : k < len
    · obtain ⟨_, _, c3, _⟩ := HA.out.2 k hlt
      obtain rfl := (HA.out.1 (by omega)).1
      have hs := HS.out k hlt
      generalize (xs k).2.2 = s at *
      have hs2 : ¬ (s.size : Int) > 200 := by omega
      have hs3 : (k : Int) < (len : Int) := by omega
      go_wp2
      go_round
      case rel => exact ⟨k + 1, by omega, by go_num⟩
      case measure => simp [intOf]; omega
    · go_wp2
      go_ret
      exact ⟨rfl, rfl⟩
theorem light_no (w : World) (A : Option Addr) (len cap b off : Nat) (xs : Nat → Int × Int × ByteArray) (hA : Acts w A len b off xs) (hl : len ≤ 80) (hcap : len ≤ cap) (j : Nat) (hj : j < len) (hs : 200 < (xs j).2.2.size) :
    Calls Try.prog 7 #[.slice A len cap] w fun e w' => e = .returned (.bool false) ∧ w' = w := by
  have HA := Lib.hid hA
  have HS := Lib.hid hs
  clear hA hs
  go_enter Try.func7, Try.ntmps7
  go_wp2
  go_loop [3] (fun i => ∃ k : Nat, k ≤ j ∧ i = .int .i64 (k : Int)) (fun i => len - (intOf i).toNat)
  case atStart => exact ⟨0, Nat.zero_le _, rfl⟩
  case round =>
    obtain ⟨k, hk, rfl⟩ := hrel
    have hlt : k < len := by omega
    obtain ⟨_, _, c3, hm⟩ := HA.out.2 k hlt
    obtain rfl := (HA.out.1 (by omega)).1
    have HJ := Lib.hid (fun h : k = j => show 200 < (xs k).2.2.size by rw [h]; exact HS.out)
    generalize (xs k).2.2 = s at *
    unfold maxLen at hm
    have hs3 : (k : Int) < (len : Int) := by omega
    by_cases hs2 : (s.size : Int) > 200
    · go_wp2
      go_ret
      exact ⟨rfl, rfl⟩
    · have hkj : k ≠ j := fun h => by have := HJ.out h; omega
      go_wp2
      go_round
      case rel => exact ⟨k + 1, by omega, by go_num⟩
      case measure => simp [intOf]; omega
end Go.Proofs.Ytflhdpekmgpdfaa
