/- The pipe's methods. -/
import Derived.Test.YtflhdpekmgpdfaaPb
namespace Go.Proofs.Ytflhdpekmgpdfaa
open Go.RowKit
set_option linter.unusedVariables false
set_option maxRecDepth 20000
section
variable {w : World} {B R : Nat} {room : Int} {cl : Bool} {head : ByteArray} {rest : List UInt8} {g : Option Nat}
theorem Pip.drewN (h : Pip w B R room cl head rest g) (n : Nat) : Pip (w.drewN n) B R room cl head rest g := h
theorem Pip.cell2 (h : Pip w B R room cl head rest g) : w.cell? ⟨R, 2, none⟩ = some (.string head) ∧ w.frozen? ⟨R, 2, none⟩ = false := by
  obtain ⟨p, v, hb, _⟩ := h
  refine ⟨?_, hb.frozen 2⟩
  rw [hb.cell 2]; rfl
theorem Pip.cell0 (h : Pip w B R room cl head rest g) : w.cell? ⟨R, 0, none⟩ = some (.int .i64 room) := by
  obtain ⟨p, v, hb, _⟩ := h
  rw [hb.cell 0]; rfl
theorem Pip.cell1 (h : Pip w B R room cl head rest g) : w.cell? ⟨R, 1, none⟩ = some (.bool cl) ∧ w.frozen? ⟨R, 1, none⟩ = false := by
  obtain ⟨p, v, hb, _⟩ := h
  refine ⟨?_, hb.frozen 1⟩
  rw [hb.cell 1]; rfl
theorem Pip.head_ (h : Pip w B R room cl head rest g) (head' : ByteArray) : Pip (w.setCell ⟨R, 2, none⟩ (.string head')) B R room cl head' rest g := by
  obtain ⟨p, v, hb, hp, ho, hg⟩ := h
  exact ⟨p, v, hb.set_ 2 _, hp, own_far hb ho 2 _, hg⟩
theorem Pip.close_ (h : Pip w B R room cl head rest g) : Pip (w.setCell ⟨R, 1, none⟩ (.bool true)) B R room true head rest g := by
  obtain ⟨p, v, hb, hp, ho, hg⟩ := h
  exact ⟨p, v, hb.set_ 1 _, hp, own_far hb ho 1 _, hg⟩
theorem new_any (w : World) (m : Int) : Calls Try.prog 8 #[.int .i64 m] w fun e w' => e = .returned (.pointer (some ⟨w.heap.size, 0, none⟩)) ∧ (∀ B, Pip w' B w.heap.size (max m 0) false ⟨#[]⟩ [] none) ∧ Below w.heap.size w w' := by
  go_enter Try.func8, Try.ntmps8
  go_wp2
  all_goals (
    go_ret
    refine ⟨rfl, fun B => ⟨none, .slice none 0 0, ?_, .inl rfl, World.ownsRowF_nil _ _ _ _, rfl⟩, (Below.refl _ _).alloc (Nat.le_refl _) _⟩
    first
      | (rw [show max m 0 = 0 by omega]; exact Blk.new _ _ _)
      | (rw [show max m 0 = m by omega]; exact Blk.new _ _ _))
theorem close_any (h : Pip w B R room cl head rest g) : Calls Try.prog 14 #[.pointer (some ⟨R, 0, none⟩)] w fun e w' => e = .returned (.tuple #[]) ∧ Pip w' B R room true head rest g ∧ Eff w w' R none := by
  obtain ⟨c1, f1⟩ := h.cell1
  have H := Lib.hid h
  clear h
  go_enter Try.func14, Try.ntmps14
  go_wp2
  go_end0
  exact ⟨rfl, H.out.close_, (Eff.refl w R none).setCell 1 _⟩
theorem closed_any (h : Pip w B R room cl head rest g) : Calls Try.prog 18 #[.pointer (some ⟨R, 0, none⟩)] w fun e w' => e = .returned (.bool cl) ∧ w' = w := by
  obtain ⟨c1, f1⟩ := h.cell1
  clear h
  go_enter Try.func18, Try.ntmps18
  go_wp2
  go_ret
  exact ⟨rfl, rfl⟩
theorem len_any {n : Nat} (h : Pip w B R room cl head rest g) (hn : head.size + rest.length = n) (hs : n ≤ 1000000) : Calls Try.prog 16 #[.pointer (some ⟨R, 0, none⟩)] w fun e w' => e = .returned (.int .i64 (n : Int)) ∧ ∃ m, w' = w.drewN m := by
  obtain ⟨c2, f2⟩ := h.cell2
  have H := Lib.hid h
  have i1 : IntKind.i64.wrap ((head.size : Int) + (rest.length : Int)) = (n : Int) := by
    rw [IntWalk.i64_left, IntWalk.wrap64_in _ (by omega)]; omega
  clear h
  go_enter Try.func16, Try.ntmps16
  go_wp2
  go_quiet ((go_at_call 20; exact Calls.quiet_of_same ((blen_any (H.out.drewN _)).mono fun _ _ ⟨h1, h2⟩ => ⟨h1, h2⟩)))
  go_wp2
  go_ret
  exact ⟨rfl, _, rfl⟩
theorem room_any {n : Nat} (h : Pip w B R room cl head rest g) (hn : head.size + rest.length = n) (hs : n ≤ 1000000) (hr : 0 ≤ room ∧ room ≤ 9223372036854775807) : Calls Try.prog 17 #[.pointer (some ⟨R, 0, none⟩)] w fun e w' => e = .returned (.int .i64 (room - (n : Int))) ∧ ∃ m, w' = w.drewN m := by
  have c0 := h.cell0
  have H := Lib.hid h
  have HN := Lib.hid hn
  have i1 : IntKind.i64.wrap (room - (n : Int)) = room - (n : Int) := by
    rw [IntWalk.i64_left, IntWalk.wrap64_in _ (by omega)]
  clear h hn
  go_enter Try.func17, Try.ntmps17
  go_wp2
  go_quiet ((go_at_call 16; exact Calls.quiet_of (len_any (H.out.drewN _) HN.out hs)))
  go_wp2
  go_ret
  exact ⟨rfl, _, rfl⟩
theorem put_closed (h : Pip w B R room true head rest g) (s : ByteArray) : Calls Try.prog 10 #[.pointer (some ⟨R, 0, none⟩), .string s] w fun e w' => e = .returned (.bool false) ∧ w' = w := by
  obtain ⟨c1, f1⟩ := h.cell1
  clear h
  go_enter Try.func10, Try.ntmps10
  go_wp2
  go_ret
  exact ⟨rfl, rfl⟩
theorem put_no {n : Nat} (h : Pip w B R room false head rest g) (hn : head.size + rest.length = n) (hs : n ≤ 1000000) (hr : 0 ≤ room ∧ room ≤ 9223372036854775807) (s : ByteArray) (hf : (s.size : Int) > room - (n : Int)) :
    Calls Try.prog 10 #[.pointer (some ⟨R, 0, none⟩), .string s] w fun e w' => e = .returned (.bool false) ∧ ∃ m, w' = w.drewN m := by
  obtain ⟨c1, f1⟩ := h.cell1
  have H := Lib.hid h
  have HN := Lib.hid hn
  have HRR := Lib.hid hr
  clear h hn hr
  go_enter Try.func10, Try.ntmps10
  go_wp2_with (go_at_call 17; refine (room_any H.out HN.out hs HRR.out).mono ?_; rintro _ w2 ⟨rfl, m, rfl⟩)
  go_ret
  exact ⟨rfl, _, rfl⟩
theorem put_yes {n : Nat} (h : Pip w B R room false head rest g) (hn : head.size + rest.length = n) (hs : n ≤ 1000000) (hr : 0 ≤ room ∧ room ≤ 9223372036854775807) (s : ByteArray) (hsz : s.size ≤ 1000000) (hf : (s.size : Int) ≤ room - (n : Int)) (hB : B ≤ w.heap.size) :
    Calls Try.prog 10 #[.pointer (some ⟨R, 0, none⟩), .string s] w fun e w' => e = .returned (.bool true) ∧ ∃ g', Pip w' B R room false head (rest ++ s.data.toList) g' ∧ Eff w w' R g := by
  obtain ⟨c1, f1⟩ := h.cell1
  have H := Lib.hid h
  have HN := Lib.hid hn
  have HRR := Lib.hid hr
  have HBB := Lib.hid hB
  clear h hn hr hB
  go_enter Try.func10, Try.ntmps10
  go_wp2_with (first
    | (go_at_call 17; refine (room_any H.out HN.out hs HRR.out).mono ?_; rintro _ w2 ⟨rfl, m, rfl⟩)
    | (go_at_call 19
       refine (write_any (H.out.drewN _) s (by have := HN.out; omega) HBB.out).mono ?_
       rintro _ w3 ⟨rfl, g', h1, h2⟩
       have H3 := Lib.hid h1
       have HE := Lib.hid h2
       clear h1 h2)
    | fail)
  go_ret
  exact ⟨rfl, g', H3.out, ((Eff.refl w R g).drewN m).trans HE.out (fun j hj => .inl hj)⟩
set_option maxHeartbeats 1000000 in
theorem look_any (h : Pip w B R room cl head rest g) (hs : head.size + rest.length ≤ 1000000) : Calls Try.prog 15 #[.pointer (some ⟨R, 0, none⟩)] w fun e w' => e = .returned (.string (head ++ ⟨rest.toArray⟩)) ∧ ∃ g', Pip w' B R room cl (head ++ ⟨rest.toArray⟩) [] g' ∧ (g' = g ∨ g' = none) ∧ Eff w w' R g := by
  obtain ⟨c2, f2⟩ := h.cell2
  have H := Lib.hid h
  clear h
  by_cases h0 : rest = []
  · subst h0
    have e0 : head ++ (⟨(List.toArray ([] : List UInt8))⟩ : ByteArray) = head := by
      apply ByteArray.ext; simp
    rw [e0]
    go_enter Try.func15, Try.ntmps15
    go_wp2_with (first
      | (go_at_call 20; refine (blen_any H.out).mono ?_; rintro _ w2 ⟨rfl, rfl⟩; simp only [List.length_nil])
      | fail)
    go_ret
    exact ⟨rfl, g, H.out, .inl rfl, Eff.refl _ _ _⟩
  · have hl : (rest.length : Int) > 0 := by have := List.length_pos_iff.2 h0; omega
    have CS := Lib.hid (fun W (h : Pip W B R room cl head rest g) => str_any h h0)
    have hz : ¬ (9223372036854775807 < head.size + rest.length) := by omega
    go_enter Try.func15, Try.ntmps15
    go_wp2_with (first
      | (go_at_call 20; refine (blen_any H.out).mono ?_; rintro _ w1 ⟨rfl, hw1⟩; replace hw1 := hw1.symm; subst hw1)
      | fail)
    go_region_with (
      go_at_call 21
      refine (CS.out w.drew H.out).mono ?_
      rintro _ w2 ⟨rfl, h1, h2⟩
      obtain ⟨d2, e2⟩ := h1.cell2
      have H2 := Lib.hid h1
      have HE := Lib.hid (((Eff.refl w R g).drew).trans h2 (fun j hj => .inl hj))
      clear h1 h2
      go_simp)
    all_goals (
      have H3 := Lib.hid (H2.out.head_ (head ++ ⟨rest.toArray⟩))
      have HE3 := Lib.hid (HE.out.setCell 2 (.string (head ++ ⟨rest.toArray⟩)))
      go_wp2_with (
        go_at_call 22
        refine (reset_any H3.out).mono ?_
        rintro _ w3 ⟨rfl, h1, h2⟩
        obtain ⟨d3, e3⟩ := h1.cell2
        have H4 := Lib.hid h1
        have HE4 := Lib.hid (HE3.out.trans h2 (fun j hj => by cases hj))
        clear h1 h2)
      go_ret
      exact ⟨rfl, none, H4.out, .inr rfl, HE4.out⟩)
/-- All that the pipe holds: l. -/
def PS (w : World) (B R : Nat) (room : Int) (cl : Bool) (l : List UInt8) (g : Option Nat) : Prop := ∃ head rest, Pip w B R room cl head rest g ∧ head.data.toList ++ rest = l
theorem bs_ext {a b : ByteArray} (h : a.data.toList = b.data.toList) : a = b := ByteArray.ext (Array.toList_inj.1 h)
theorem app_bytes (a : ByteArray) (l : List UInt8) : a ++ (⟨l.toArray⟩ : ByteArray) = ⟨(a.data.toList ++ l).toArray⟩ := by
  apply bs_ext
  simp
theorem app_list (a : ByteArray) (l : List UInt8) : (a ++ (⟨l.toArray⟩ : ByteArray)).data.toList = a.data.toList ++ l := by
  simp
theorem bs_size (a : ByteArray) : a.size = a.data.toList.length := by simp
theorem ps_look {l : List UInt8} (h : PS w B R room cl l g) (hs : l.length ≤ 1000000) : Calls Try.prog 15 #[.pointer (some ⟨R, 0, none⟩)] w fun e w' => e = .returned (.string ⟨l.toArray⟩) ∧ ∃ g', PS w' B R room cl l g' ∧ (g' = g ∨ g' = none) ∧ Eff w w' R g := by
  obtain ⟨head, rest, hp, rfl⟩ := h
  rw [List.length_append, ← bs_size] at hs
  refine (look_any hp hs).mono ?_
  rintro _ w' ⟨rfl, g', h1, h2, h3⟩
  exact ⟨by rw [app_bytes], g', ⟨_, [], h1, by rw [app_list]; simp⟩, h2, h3⟩
end
end Go.Proofs.Ytflhdpekmgpdfaa
