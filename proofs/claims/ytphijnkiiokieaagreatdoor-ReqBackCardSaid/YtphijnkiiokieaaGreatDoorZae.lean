/- A reader, whatever its state: what it reads, and back (maths). -/
import Derived.Test.YtphijnkiiokieaaGreatDoorZad
import Derived.OwnWalk
import Derived.Deep.RegionWith
import Derived.Test.YtphijnkiiokieaaGreatDoorZaa
import Derived.Test.YtphijnkiiokieaaGreatDoorZac
/- A reader's calls: nothing but the reader's own block is turned. -/
namespace Go.Proofs.YtphijnkiiokieaaGreatDoor
open Go.RowKit
set_option linter.unusedVariables false
set_option linter.unusedSimpArgs false
set_option maxRecDepth 20000
theorem by_below {w w' : World} {row : Option Nat} (h : Below w.heap.size w w') : w.grownBy w' row := ⟨h.os, h.tape, h.output, h.size, fun j hj _ => h.block j hj⟩
theorem by_then {a b c : World} {g : Nat} (h : a.grownBy b (some g)) (hb : Below b.heap.size b c) : a.grownBy c (some g) :=
  ⟨hb.os.trans h.os, hb.tape.trans h.tape, hb.output.trans h.output, Nat.le_trans h.size hb.size, fun j hj hne => (hb.block j (Nat.lt_of_lt_of_le hj h.size)).trans (h.block j hj hne)⟩
theorem by_trans {a b c : World} {g : Nat} (h : a.grownBy b (some g)) (k : b.grownBy c (some g)) : a.grownBy c (some g) :=
  ⟨k.os.trans h.os, k.tape.trans h.tape, k.output.trans h.output, Nat.le_trans h.size k.size, fun j hj hne => (k.block j (Nat.lt_of_lt_of_le hj h.size) hne).trans (h.block j hj hne)⟩
theorem wnum_ok {w : World} {g : Nat} {s : ByteArray} {P n k : Nat} (h : Rd w g s P 0) (hs : s.size ≤ 1000000) (hP : P ≤ s.size) (hr : rt (s.data.toList.drop P) = (n, k, 0)) :
    Calls Tryz.prog 34 #[.pointer (some ⟨g, 0, none⟩)] w fun r w' => r = .returned (.int .i64 (n : Int)) ∧ Rd w' g s ((P : Int) + (k : Int)) 0 ∧ w.grownBy w' (some g) := by
  have hk := (rt_ok hr).2.2.1
  have hlen : (s.data.toList.drop P).length = s.size - P := by rw [List.length_drop, Array.length_toList]; rfl
  have hk2 : (P : Int) + (k : Int) ≤ 1000000 := by omega
  have CN := Lib.hid (rdn_any h hs hP)
  have HE := Lib.hid (show rta (s.data.toList.drop P) = #[.int .i64 (n : Int), .int .i64 (k : Int), .int .i64 0] by unfold rta; rw [hr])
  have HR := Lib.hid h
  clear h hr hk hlen
  go_enter Tryz.func34, Tryz.ntmps34
  go_wp2_with (
    go_at_call 58
    refine CN.out.mono ?_
    rintro _ w2 ⟨rfl, h2⟩
    rw [HE.out]
    have HB : Blk w2 g 81 #[.string s, .int .i64 (P : Int), .int .i64 0] := HR.out.below h2 HR.out.lt
    have c1 := HB.cell 1
    have f1 := HB.frozen 1
    have HB2 := Lib.hid (HB.set_ 1 (.int .i64 ((P : Int) + (k : Int))))
    have H2 := Lib.hid (only_setCell (by_below h2) (p := ⟨g, 1, none⟩) (.inl rfl) (.int .i64 ((P : Int) + (k : Int))))
    simp only [List.getElem?_toArray, List.getElem?_cons_zero, List.getElem?_cons_succ] at c1
    clear h2 HB)
  go_ret
  exact ⟨rfl, HB2.out, H2.out⟩
theorem wnum_bad {w : World} {g : Nat} {s : ByteArray} {P : Nat} {e : Int} (h : Rd w g s P 0) (hs : s.size ≤ 1000000) (hP : P ≤ s.size) (hr : (rt (s.data.toList.drop P)).2.2 = e) (he : e ≠ 0) :
    Calls Tryz.prog 34 #[.pointer (some ⟨g, 0, none⟩)] w fun r w' => r = .returned (.int .i64 0) ∧ Rd w' g s P e ∧ w.grownBy w' (some g) := by
  have hb := rt_bad (l := s.data.toList.drop P) (by rw [hr]; exact he)
  have CN := Lib.hid (rdn_any h hs hP)
  have HE := Lib.hid (show rta (s.data.toList.drop P) = #[.int .i64 0, .int .i64 0, .int .i64 e] by unfold rta; rw [hr, hb.1, hb.2]; rfl)
  have hbe : (e != 0) = true := by simpa using he
  have HR := Lib.hid h
  clear h hr hb
  go_enter Tryz.func34, Tryz.ntmps34
  go_wp2_with (
    go_at_call 58
    refine CN.out.mono ?_
    rintro _ w2 ⟨rfl, h2⟩
    rw [HE.out]
    have HB : Blk w2 g 81 #[.string s, .int .i64 (P : Int), .int .i64 0] := HR.out.below h2 HR.out.lt
    have c2 := HB.cell 2
    have f2 := HB.frozen 2
    have HB2 := Lib.hid (HB.set_ 2 (.int .i64 e))
    have H2 := Lib.hid (only_setCell (by_below h2) (p := ⟨g, 2, none⟩) (.inl rfl) (.int .i64 e))
    simp only [List.getElem?_toArray, List.getElem?_cons_zero, List.getElem?_cons_succ] at c2
    clear h2 HB)
  go_ret
  exact ⟨rfl, HB2.out, H2.out⟩
set_option maxHeartbeats 1000000 in
theorem wtext_ok {w : World} {g : Nat} {s : ByteArray} {P n k : Nat} {most : Int} (h : Rd w g s P 0) (hs : s.size ≤ 1000000) (hP : P ≤ s.size) (hr : rt (s.data.toList.drop P) = (n, k, 0)) (hn : P + k + n ≤ s.size) (hm : (n : Int) ≤ most) :
    Calls Tryz.prog 73 #[.pointer (some ⟨g, 0, none⟩), .int .i64 most] w fun r w' => r = .returned (.string ⟨((s.data.toList.drop (P + k)).take n).toArray⟩) ∧ Rd w' g s ((P : Int) + (k : Int) + (n : Int)) 0 ∧ w.grownBy w' (some g) := by
  have CN := Lib.hid (rdn_any h hs hP)
  have HE := Lib.hid (show rta (s.data.toList.drop P) = #[.int .i64 (n : Int), .int .i64 (k : Int), .int .i64 0] by unfold rta; rw [hr])
  have HR := Lib.hid h
  have ex : s.extract (P + k) (P + k + n) = ⟨((s.data.toList.drop (P + k)).take n).toArray⟩ := by
    apply ByteArray.ext
    rw [ByteArray.data_extract]
    apply Array.toList_inj.1
    rw [Array.toList_extract, List.extract_eq_take_drop]
    simp
  have HEX := Lib.hid ex
  have hfit : (if (s.size : Int) - P - k < n then 14 else if most < n then 2 else 0 : Int) = 0 := by rw [if_neg (by omega), if_neg (by omega)]
  have HFI := Lib.hid hfit
  have hsz : (s.extract (P + k) (P + k + n)).size ≤ 1000000 := by rw [ByteArray.size_extract]; omega
  clear h hr ex hfit
  go_enter Tryz.func73, Tryz.ntmps73
  go_wp2_with (first
    | (go_at_call 58
       refine CN.out.mono ?_
       rintro _ w2 ⟨rfl, h2⟩
       rw [HE.out]
       have HB : Rd w2 g s P 0 := HR.out.below h2 HR.out.lt
       have HR2 := Lib.hid HB
       have H2 := Lib.hid (by_below (row := some g) h2)
       clear h2 HB)
    | (go_at_call 82
       refine (fits_any HR2.out hs (by omega) (by omega)).mono ?_
       rintro _ w3 ⟨rfl, h2⟩
       rw [HFI.out]
       have HB : Blk w3 g 81 #[.string s, .int .i64 (P : Int), .int .i64 0] := HR2.out.below h2 HR2.out.lt
       have c0 := HB.cell 0
       have c1 := HB.cell 1
       have f1 := HB.frozen 1
       have HR3 := Lib.hid (HB.set_ 1 (.int .i64 ((P : Int) + (k : Int) + (n : Int))))
       have H3 := Lib.hid (only_setCell (by_then H2.out h2) (p := ⟨g, 1, none⟩) (.inl rfl) (.int .i64 ((P : Int) + (k : Int) + (n : Int))))
       simp only [List.getElem?_toArray, List.getElem?_cons_zero, List.getElem?_cons_succ] at c0 c1
       clear h2 HB)
    | fail)
  generalize hW : World.setCell _ _ _ = W at *
  have d0 := Blk.cell HR3.out 0
  have d1 := Blk.cell HR3.out 1
  simp at d0 d1
  go_region_with (
    go_at_call 83
    refine (sclone_any _ _ hsz).mono ?_
    rintro _ w4 ⟨rfl, h2⟩
    have HR4 : Hid (Rd w4 g s ((P : Int) + (k : Int) + (n : Int)) 0) := Lib.hid (Blk.below (Blk.drew HR3.out) h2 HR3.out.lt)
    have H4 := Lib.hid (by_then (only_drewN H3.out 1) h2)
    clear h2
    go_simp)
  all_goals (
    go_wp2
    go_ret
    exact ⟨by rw [← HEX.out]; rfl, HR4.out, H4.out⟩)
set_option maxHeartbeats 1000000 in
theorem wtext_bad {w : World} {g : Nat} {s : ByteArray} {P : Nat} {most e : Int} (h : Rd w g s P 0) (hs : s.size ≤ 1000000) (hP : P ≤ s.size) (hr : (rt (s.data.toList.drop P)).2.2 = e) (he : e ≠ 0) :
    Calls Tryz.prog 73 #[.pointer (some ⟨g, 0, none⟩), .int .i64 most] w fun r w' => r = .returned (.string ⟨#[]⟩) ∧ Rd w' g s P e ∧ w.grownBy w' (some g) := by
  have hb := rt_bad (l := s.data.toList.drop P) (by rw [hr]; exact he)
  have CN := Lib.hid (rdn_any h hs hP)
  have HE := Lib.hid (show rta (s.data.toList.drop P) = #[.int .i64 0, .int .i64 0, .int .i64 e] by unfold rta; rw [hr, hb.1, hb.2]; rfl)
  have hbe : (e != 0) = true := by simpa using he
  have hbe2 : (e == 0) = false := by simpa using he
  have HR := Lib.hid h
  clear h hr hb
  go_enter Tryz.func73, Tryz.ntmps73
  go_wp2_with (
    go_at_call 58
    refine CN.out.mono ?_
    rintro _ w2 ⟨rfl, h2⟩
    rw [HE.out]
    have HB : Blk w2 g 81 #[.string s, .int .i64 (P : Int), .int .i64 0] := HR.out.below h2 HR.out.lt
    have c2 := HB.cell 2
    have f2 := HB.frozen 2
    have HB2 := Lib.hid (HB.set_ 2 (.int .i64 e))
    have H2 := Lib.hid (only_setCell (by_below h2) (p := ⟨g, 2, none⟩) (.inl rfl) (.int .i64 e))
    simp only [List.getElem?_toArray, List.getElem?_cons_zero, List.getElem?_cons_succ] at c2
    clear h2 HB)
  go_ret
  exact ⟨rfl, HB2.out, H2.out⟩
set_option maxHeartbeats 1000000 in
theorem wtext_over {w : World} {g : Nat} {s : ByteArray} {P n k : Nat} {most e : Int} (h : Rd w g s P 0) (hs : s.size ≤ 1000000) (hP : P ≤ s.size) (hr : rt (s.data.toList.drop P) = (n, k, 0)) (hk : P + k ≤ s.size)
    (hf : (if (s.size : Int) - P - k < n then 14 else if most < n then 2 else 0 : Int) = e) (he : e ≠ 0) :
    Calls Tryz.prog 73 #[.pointer (some ⟨g, 0, none⟩), .int .i64 most] w fun r w' => r = .returned (.string ⟨#[]⟩) ∧ Rd w' g s P e ∧ w.grownBy w' (some g) := by
  have CN := Lib.hid (rdn_any h hs hP)
  have HE := Lib.hid (show rta (s.data.toList.drop P) = #[.int .i64 (n : Int), .int .i64 (k : Int), .int .i64 0] by unfold rta; rw [hr])
  have hbe : (e != 0) = true := by simpa using he
  have HR := Lib.hid h
  have HFI := Lib.hid hf
  clear h hr hf
  go_enter Tryz.func73, Tryz.ntmps73
  go_wp2_with (first
    | (go_at_call 58
       refine CN.out.mono ?_
       rintro _ w2 ⟨rfl, h2⟩
       rw [HE.out]
       have HB : Rd w2 g s P 0 := HR.out.below h2 HR.out.lt
       have HR2 := Lib.hid HB
       have H2 := Lib.hid (by_below (row := some g) h2)
       clear h2 HB)
    | (go_at_call 82
       refine (fits_any HR2.out hs (by omega) (by omega)).mono ?_
       rintro _ w3 ⟨rfl, h2⟩
       rw [HFI.out]
       have HB : Blk w3 g 81 #[.string s, .int .i64 (P : Int), .int .i64 0] := HR2.out.below h2 HR2.out.lt
       have c2 := HB.cell 2
       have f2 := HB.frozen 2
       have HB2 := Lib.hid (HB.set_ 2 (.int .i64 e))
       have H3 := Lib.hid (only_setCell (by_then H2.out h2) (p := ⟨g, 2, none⟩) (.inl rfl) (.int .i64 e))
       simp only [List.getElem?_toArray, List.getElem?_cons_zero, List.getElem?_cons_succ] at c2
       clear h2 HB))
  go_ret
  exact ⟨rfl, HB2.out, H3.out⟩
theorem wnum_err {w : World} {g : Nat} {s : ByteArray} {P : Nat} {e : Int} (h : Rd w g s P e) (he : e ≠ 0) :
    Calls Tryz.prog 34 #[.pointer (some ⟨g, 0, none⟩)] w fun r w' => r = .returned (.int .i64 0) ∧ Rd w' g s P e ∧ w.grownBy w' (some g) := by
  have CN := Lib.hid (rdn_err h he)
  have hbe : (e != 0) = true := by simpa using he
  have hbe2 : (e == 0) = false := by simpa using he
  have HR := Lib.hid h
  clear h
  go_enter Tryz.func34, Tryz.ntmps34
  go_wp2_with (
    go_at_call 58
    refine CN.out.mono ?_
    rintro _ w2 ⟨rfl, h2⟩
    have HB : Blk w2 g 81 #[.string s, .int .i64 (P : Int), .int .i64 e] := HR.out.below h2 HR.out.lt
    have c2 := HB.cell 2
    have f2 := HB.frozen 2
    have HB2 := Lib.hid (HB.set_ 2 (.int .i64 e))
    have H2 := Lib.hid (only_setCell (by_below h2) (p := ⟨g, 2, none⟩) (.inl rfl) (.int .i64 e))
    simp only [List.getElem?_toArray, List.getElem?_cons_zero, List.getElem?_cons_succ] at c2
    clear h2 HB)
  go_ret
  exact ⟨rfl, HB2.out, H2.out⟩
theorem wtext_err {w : World} {g : Nat} {s : ByteArray} {P : Nat} {e : Int} (h : Rd w g s P e) (he : e ≠ 0) (most : Int) :
    Calls Tryz.prog 73 #[.pointer (some ⟨g, 0, none⟩), .int .i64 most] w fun r w' => r = .returned (.string ⟨#[]⟩) ∧ Rd w' g s P e ∧ w.grownBy w' (some g) := by
  have CN := Lib.hid (rdn_err h he)
  have hbe : (e != 0) = true := by simpa using he
  have hbe2 : (e == 0) = false := by simpa using he
  have HR := Lib.hid h
  clear h
  go_enter Tryz.func73, Tryz.ntmps73
  go_wp2_with (
    go_at_call 58
    refine CN.out.mono ?_
    rintro _ w2 ⟨rfl, h2⟩
    have HB : Blk w2 g 81 #[.string s, .int .i64 (P : Int), .int .i64 e] := HR.out.below h2 HR.out.lt
    have c2 := HB.cell 2
    have f2 := HB.frozen 2
    have HB2 := Lib.hid (HB.set_ 2 (.int .i64 e))
    have H2 := Lib.hid (only_setCell (by_below h2) (p := ⟨g, 2, none⟩) (.inl rfl) (.int .i64 e))
    simp only [List.getElem?_toArray, List.getElem?_cons_zero, List.getElem?_cons_succ] at c2
    clear h2 HB)
  go_ret
  exact ⟨rfl, HB2.out, H2.out⟩
end Go.Proofs.YtphijnkiiokieaaGreatDoor
/- Boxes that a call holds: what stands in them while other calls come and go. -/
namespace Go.Proofs.YtphijnkiiokieaaGreatDoor
open Go.RowKit
structure Bxs (w0 wr : World) (l : List (Nat × TypeId × Array Value)) : Prop where
  all : ∀ g t cs, (g, t, cs) ∈ l → Blk wr g t cs
  bel : Below w0.heap.size w0 wr
section
variable {w0 wr w' : World} {l : List (Nat × TypeId × Array Value)}
theorem Bxs.start (w : World) : Bxs w w [] := ⟨fun _ _ _ h => by simp at h, Below.refl _ _⟩
theorem Bxs.get (h : Bxs w0 wr l) (i : Nat) {g : Nat} {t : TypeId} {cs : Array Value} (e : l[i]? = some (g, t, cs)) : Blk wr g t cs := h.all g t cs (List.mem_of_getElem? e)
theorem Bxs.step (h : Bxs w0 wr l) (hb : Below wr.heap.size wr w') : Bxs w0 w' l := ⟨fun g t cs hm => (h.all g t cs hm).below hb (h.all g t cs hm).lt, h.bel.trans (hb.mono h.bel.size)⟩
theorem Bxs.new (h : Bxs w0 wr l) (t : TypeId) (cs : Array Value) : Bxs w0 (wr.alloc (.cells cs t)) (l ++ [(wr.heap.size, t, cs)]) :=
  ⟨fun g u ds hm => by
    rcases List.mem_append.1 hm with hm | hm
    · exact (h.all g u ds hm).alloc _
    · simp only [List.mem_singleton, Prod.mk.injEq] at hm
      obtain ⟨rfl, rfl, rfl⟩ := hm
      exact Blk.new _ _ _, h.bel.alloc h.bel.size _⟩
theorem Bxs.alloc (h : Bxs w0 wr l) (o : Obj) : Bxs w0 (wr.alloc o) l := ⟨fun g t cs hm => (h.all g t cs hm).alloc o, h.bel.alloc h.bel.size o⟩
theorem Bxs.drewN (h : Bxs w0 wr l) (n : Nat) : Bxs w0 (wr.drewN n) l := ⟨fun g t cs hm => (h.all g t cs hm).drewN n, below_drewN h.bel n⟩
theorem Bxs.drew (h : Bxs w0 wr l) : Bxs w0 wr.drew l := h.drewN 1
end
end Go.Proofs.YtphijnkiiokieaaGreatDoor
/- A reader, whatever its state: numbers and texts; wire's reader. -/
namespace Go.Proofs.YtphijnkiiokieaaGreatDoor
open Go.RowKit
set_option linter.unusedVariables false
set_option linter.unusedSimpArgs false
set_option maxRecDepth 20000
/-- Where a reader stands, and its first error. -/
structure Ps where
  p : Nat
  e : Int
def numP (l : List UInt8) (q : Ps) : Int × Ps := if q.e ≠ 0 then (0, q) else if (rt (l.drop q.p)).2.2 = 0 then (((rt (l.drop q.p)).1 : Int), ⟨q.p + (rt (l.drop q.p)).2.1, 0⟩) else (0, ⟨q.p, (rt (l.drop q.p)).2.2⟩)
def textP (most : Nat) (l : List UInt8) (q : Ps) : ByteArray × Ps :=
  if q.e ≠ 0 then (⟨#[]⟩, q) else if (rt (l.drop q.p)).2.2 ≠ 0 then (⟨#[]⟩, ⟨q.p, (rt (l.drop q.p)).2.2⟩)
  else if l.length < q.p + (rt (l.drop q.p)).2.1 + (rt (l.drop q.p)).1 then (⟨#[]⟩, ⟨q.p, 14⟩) else if most < (rt (l.drop q.p)).1 then (⟨#[]⟩, ⟨q.p, 2⟩)
  else (⟨((l.drop (q.p + (rt (l.drop q.p)).2.1)).take (rt (l.drop q.p)).1).toArray⟩, ⟨q.p + (rt (l.drop q.p)).2.1 + (rt (l.drop q.p)).1, 0⟩)
theorem rt_in {l : List UInt8} {p : Nat} (hp : p ≤ l.length) (h : (rt (l.drop p)).2.2 = 0) : p + (rt (l.drop p)).2.1 ≤ l.length := by
  have := (rt_ok (l := l.drop p) (n := (rt (l.drop p)).1) (k := (rt (l.drop p)).2.1) (by rw [← h])).2.2.1
  rw [List.length_drop] at this
  omega
theorem numP_in {l : List UInt8} {q : Ps} (hp : q.p ≤ l.length) : (numP l q).2.p ≤ l.length := by
  unfold numP
  split
  · exact hp
  · split
    · rename_i h; exact rt_in hp h
    · exact hp
theorem textP_in {most : Nat} {l : List UInt8} {q : Ps} (hp : q.p ≤ l.length) : (textP most l q).2.p ≤ l.length := by
  unfold textP
  split
  · exact hp
  · split
    · exact hp
    · split
      · exact hp
      · split
        · exact hp
        · show _ + _ + _ ≤ _; omega
section
variable {w : World} {g : Nat} {s : ByteArray} {q : Ps}
theorem sz_list (s : ByteArray) : s.data.toList.length = s.size := by rw [Array.length_toList]; rfl
theorem numP_any (h : Rd w g s q.p q.e) (hs : s.size ≤ 1000000) (hp : q.p ≤ s.size) : Calls Tryz.prog 34 #[.pointer (some ⟨g, 0, none⟩)] w fun r w' => r = .returned (.int .i64 (numP s.data.toList q).1) ∧ Rd w' g s (numP s.data.toList q).2.p (numP s.data.toList q).2.e ∧ w.grownBy w' (some g) := by
  unfold numP
  by_cases he : q.e = 0
  · rw [if_neg (by omega)]
    rw [he] at h
    by_cases hr : (rt (s.data.toList.drop q.p)).2.2 = 0
    · rw [if_pos hr]
      refine (wnum_ok h hs hp (n := (rt (s.data.toList.drop q.p)).1) (k := (rt (s.data.toList.drop q.p)).2.1) (by rw [← hr])).mono ?_
      rintro r w' ⟨h1, h2, h3⟩
      exact ⟨h1, by simpa using h2, h3⟩
    · rw [if_neg hr]
      exact wnum_bad h hs hp rfl hr
  · rw [if_pos he]
    exact wnum_err h he
theorem textP_any (h : Rd w g s q.p q.e) (hs : s.size ≤ 1000000) (hp : q.p ≤ s.size) (most : Nat) : Calls Tryz.prog 73 #[.pointer (some ⟨g, 0, none⟩), .int .i64 (most : Int)] w fun r w' => r = .returned (.string (textP most s.data.toList q).1) ∧ Rd w' g s (textP most s.data.toList q).2.p (textP most s.data.toList q).2.e ∧ w.grownBy w' (some g) := by
  unfold textP
  by_cases he : q.e = 0
  · rw [if_neg (by omega)]
    rw [he] at h
    by_cases hr : (rt (s.data.toList.drop q.p)).2.2 = 0
    · rw [if_neg (by omega)]
      have hk := rt_in (l := s.data.toList) (p := q.p) (by rw [sz_list]; exact hp) hr
      rw [sz_list] at hk ⊢
      have hrt : rt (s.data.toList.drop q.p) = ((rt (s.data.toList.drop q.p)).1, (rt (s.data.toList.drop q.p)).2.1, 0) := by rw [← hr]
      by_cases h1 : s.size < q.p + (rt (s.data.toList.drop q.p)).2.1 + (rt (s.data.toList.drop q.p)).1
      · rw [if_pos h1]
        exact wtext_over (P := q.p) (e := 14) h hs hp hrt hk (by rw [if_pos (by omega)]) (by decide)
      · rw [if_neg h1]
        by_cases h2 : most < (rt (s.data.toList.drop q.p)).1
        · rw [if_pos h2]
          exact wtext_over (P := q.p) (e := 2) h hs hp hrt hk (by rw [if_neg (by omega), if_pos (by omega)]) (by decide)
        · rw [if_neg h2]
          refine (wtext_ok h hs hp hrt (by omega) (by omega)).mono ?_
          rintro r w' ⟨g1, g2, g3⟩
          exact ⟨g1, by simpa using g2, g3⟩
    · rw [if_pos hr]
      exact wtext_bad h hs hp rfl hr
  · rw [if_pos he]
    exact wtext_err h he _
end
/-- wire's reader: over pack's; has a number been too great? -/
structure Wi (w : World) (G g : Nat) (s : ByteArray) (q : Ps) (x : Bool) : Prop where
  bx : Blk w G 62 #[.pointer (some ⟨g, 0, none⟩), .bool x]
  rd : Rd w g s q.p q.e
  ne : G ≠ g
  hp : q.p ≤ s.size
/-- Two blocks may have turned. -/
structure Tw2 (w w' : World) (G g : Nat) : Prop where
  os : w'.os = w.os
  tape : w'.tape = w.tape
  output : w'.output = w.output
  size : w.heap.size ≤ w'.heap.size
  block : ∀ j, j < w.heap.size → j ≠ G → j ≠ g → w'.heap[j]? = w.heap[j]?
theorem Tw2.of {w w' : World} {G g : Nat} (h : w.grownBy w' (some g)) : Tw2 w w' G g := ⟨h.os, h.tape, h.output, h.size, fun j h1 _ h3 => h.block j h1 (by simpa using h3)⟩
theorem Tw2.refl (w : World) (G g : Nat) : Tw2 w w G g := ⟨rfl, rfl, rfl, Nat.le_refl _, fun _ _ _ _ => rfl⟩
theorem Tw2.setG {w w' : World} {G g : Nat} (h : Tw2 w w' G g) (i : Nat) (u : Value) : Tw2 w (w'.setCell ⟨G, i, none⟩ u) G g :=
  ⟨h.os, h.tape, h.output, by simpa [World.setCell] using h.size, fun j h1 h2 h3 => (Below.heap_setCell w' ⟨G, i, none⟩ u j h2).trans (h.block j h1 h2 h3)⟩
theorem Tw2.trans {a b c : World} {G g : Nat} (h : Tw2 a b G g) (k : Tw2 b c G g) : Tw2 a c G g :=
  ⟨k.os.trans h.os, k.tape.trans h.tape, k.output.trans h.output, Nat.le_trans h.size k.size, fun j h1 h2 h3 => (k.block j (Nat.lt_of_lt_of_le h1 h.size) h2 h3).trans (h.block j h1 h2 h3)⟩
theorem Tw2.below {a b : World} {G g B : Nat} (h : Tw2 a b G g) (h1 : B ≤ G) (h2 : B ≤ g) (h3 : B ≤ a.heap.size) : Below B a b :=
  ⟨h.os, h.tape, h.output, h.size, fun j hj => h.block j (by omega) (by omega) (by omega)⟩
def belowP (most : Nat) (l : List UInt8) (q : Ps) (x : Bool) : Int × Ps × Bool := if (most : Int) < (numP l q).1 then (0, (numP l q).2, true) else ((numP l q).1, (numP l q).2, x)
section
variable {w : World} {G g : Nat} {s : ByteArray} {q : Ps} {x : Bool}
set_option maxHeartbeats 2000000 in
theorem below_any (h : Wi w G g s q x) (hs : s.size ≤ 1000000) (most : Nat) : Calls Tryz.prog 56 #[.pointer (some ⟨G, 0, none⟩), .int .i64 (most : Int)] w fun r w' => r = .returned (.int .i64 (belowP most s.data.toList q x).1) ∧ Wi w' G g s (belowP most s.data.toList q x).2.1 (belowP most s.data.toList q x).2.2 ∧ Tw2 w w' G g := by
  have c0 := h.bx.cell 0
  have HN := Lib.hid (numP_any h.rd hs h.hp)
  have HIN := Lib.hid (show (numP s.data.toList q).2.p ≤ s.size by have := numP_in (l := s.data.toList) (q := q) (by rw [sz_list]; exact h.hp); rwa [sz_list] at this)
  have HB := Lib.hid h
  obtain ⟨r, hr⟩ : ∃ r, belowP most s.data.toList q x = r := ⟨_, rfl⟩
  have HR := Lib.hid (show (if (most : Int) < (numP s.data.toList q).1 then (0, (numP s.data.toList q).2, true) else ((numP s.data.toList q).1, (numP s.data.toList q).2, x)) = r from hr)
  rw [hr]
  obtain ⟨⟨n, q2⟩, hn⟩ : ∃ y, numP s.data.toList q = y := ⟨_, rfl⟩
  rw [hn] at HN HR HIN
  simp only at HN HR HIN
  clear h hr hn
  go_enter Tryz.func56, Tryz.ntmps56
  go_wp2_with fail
  refine HN.out.mono ?_
  rintro _ w2 ⟨rfl, h1, h2⟩
  have HB2 := Lib.hid (show Blk w2 G 62 #[.pointer (some ⟨g, 0, none⟩), .bool x] from HB.out.bx.grown h2 (by simpa using HB.out.ne))
  have HR2 := Lib.hid h1
  have HT := Lib.hid (Tw2.of (G := G) h2)
  have d1 := HB2.out.cell 1
  have f1 := HB2.out.frozen 1
  clear h1 h2
  by_cases hm : (most : Int) < n
  · have H0 := Lib.hid (show r = (0, q2, true) by rw [← HR.out, if_pos hm])
    go_wp2
    go_ret
    rw [H0.out]
    exact ⟨rfl, ⟨HB2.out.set_ 1 (.bool true), HR2.out.far (p := ⟨G, 1, none⟩) (Ne.symm HB.out.ne) _, HB.out.ne, HIN.out⟩, HT.out.setG 1 _⟩
  · have H0 := Lib.hid (show r = (n, q2, x) by rw [← HR.out, if_neg hm])
    go_wp2
    go_ret
    rw [H0.out]
    exact ⟨rfl, ⟨HB2.out, HR2.out, HB.out.ne, HIN.out⟩, HT.out⟩
def markP (l : List UInt8) (q : Ps) (x : Bool) : Bool × Ps × Bool := ((belowP 1 l q x).1 == 1, (belowP 1 l q x).2)
theorem wmark_any (h : Wi w G g s q x) (hs : s.size ≤ 1000000) : Calls Tryz.prog 57 #[.pointer (some ⟨G, 0, none⟩)] w fun r w' => r = .returned (.bool (markP s.data.toList q x).1) ∧ Wi w' G g s (markP s.data.toList q x).2.1 (markP s.data.toList q x).2.2 ∧ Tw2 w w' G g := by
  have HN := Lib.hid (below_any h hs 1)
  unfold markP
  obtain ⟨⟨n, q2, x2⟩, hn⟩ : ∃ y, belowP 1 s.data.toList q x = y := ⟨_, rfl⟩
  rw [hn] at HN ⊢
  simp only at HN ⊢
  obtain ⟨bq, hbq⟩ : ∃ b, (n == 1) = b := ⟨_, rfl⟩
  rw [hbq]
  clear h hn
  go_enter Tryz.func57, Tryz.ntmps57
  go_wp2_with fail
  refine HN.out.mono ?_
  rintro _ w2 ⟨rfl, h1, h2⟩
  have H1 := Lib.hid h1
  have H2 := Lib.hid h2
  clear h1 h2
  go_wp2
  go_ret
  exact ⟨rfl, H1.out, H2.out⟩
theorem field_any (h : Wi w G g s q x) (hs : s.size ≤ 1000000) : Calls Tryz.prog 55 #[.pointer (some ⟨G, 0, none⟩)] w fun r w' => r = .returned (.string (textP 20000 s.data.toList q).1) ∧ Wi w' G g s (textP 20000 s.data.toList q).2 x ∧ Tw2 w w' G g := by
  have c0 := h.bx.cell 0
  have HN := Lib.hid (textP_any h.rd hs h.hp 20000)
  have HIN := Lib.hid (show (textP 20000 s.data.toList q).2.p ≤ s.size by have := textP_in (most := 20000) (l := s.data.toList) (q := q) (by rw [sz_list]; exact h.hp); rwa [sz_list] at this)
  have HB := Lib.hid h
  obtain ⟨⟨t, q2⟩, hn⟩ : ∃ y, textP 20000 s.data.toList q = y := ⟨_, rfl⟩
  rw [hn] at HN HIN ⊢
  simp only at HN HIN ⊢
  clear h hn
  go_enter Tryz.func55, Tryz.ntmps55
  go_wp2_with fail
  refine HN.out.mono ?_
  rintro _ w2 ⟨rfl, h1, h2⟩
  have H1 := Lib.hid h1
  have HB2 := Lib.hid (show Blk w2 G 62 #[.pointer (some ⟨g, 0, none⟩), .bool x] from HB.out.bx.grown h2 (by simpa using HB.out.ne))
  have HT := Lib.hid (Tw2.of (G := G) h2)
  clear h1 h2
  go_wp2
  go_ret
  exact ⟨rfl, ⟨HB2.out, H1.out, HB.out.ne, HIN.out⟩, HT.out⟩
theorem wnum_any (h : Wi w G g s q x) (hs : s.size ≤ 1000000) : Calls Tryz.prog 34 #[.pointer (some ⟨g, 0, none⟩)] w fun r w' => r = .returned (.int .i64 (numP s.data.toList q).1) ∧ Wi w' G g s (numP s.data.toList q).2 x ∧ Tw2 w w' G g := by
  refine (numP_any h.rd hs h.hp).mono ?_
  rintro r w' ⟨h1, h2, h3⟩
  have hin : (numP s.data.toList q).2.p ≤ s.size := by have := numP_in (l := s.data.toList) (q := q) (by rw [sz_list]; exact h.hp); rwa [sz_list] at this
  exact ⟨h1, ⟨h.bx.grown h3 (by simpa using h.ne), h2, h.ne, hin⟩, Tw2.of h3⟩
end
end Go.Proofs.YtphijnkiiokieaaGreatDoor
/- Boxes that a call holds: the parameters' ones. -/
namespace Go.Proofs.YtphijnkiiokieaaGreatDoor
open Go.RowKit
variable {w0 wr w' : World} {l : List (Nat × TypeId × Array Value)}
theorem Bxs.put (h : Bxs w0 wr l) (t : TypeId) (cs : Array Value) (g : Nat) (e : wr.heap.size = g) : Bxs w0 (wr.alloc (.cells cs t)) (l ++ [(g, t, cs)]) := e ▸ h.new t cs
theorem Bxs.two (w : World) (t u : TypeId) (a b : Array Value) : Bxs w ((w.alloc (.cells a t)).alloc (.cells b u)) [(w.heap.size, t, a), (w.heap.size + 1, u, b)] := ((Bxs.start w).new t a).put u b _ (by simp)
theorem Bxs.three (w : World) (t u v : TypeId) (a b c : Array Value) : Bxs w (((w.alloc (.cells a t)).alloc (.cells b u)).alloc (.cells c v)) [(w.heap.size, t, a), (w.heap.size + 1, u, b), (w.heap.size + 1 + 1, v, c)] := (Bxs.two w t u a b).put v c _ (by simp)
end Go.Proofs.YtphijnkiiokieaaGreatDoor
/- Numbers and texts laid behind bytes of one's own. -/
namespace Go.Proofs.YtphijnkiiokieaaGreatDoor
open Go.RowKit
set_option linter.unusedVariables false
set_option linter.unusedSimpArgs false
set_option maxRecDepth 20000
theorem nil_byt (W : World) : Byt W none 0 0 0 0 [] := ⟨rfl, Nat.le_refl _, Nat.zero_le _, fun h => absurd h (by simp), fun j u hu => by simp at hu⟩
def b01 (x : Bool) : Int := if x = true then 1 else 0
theorem encz_len (n : Int) (hn : n < 9223372036854775808) : (encz n).length ≤ 9 := by
  unfold encz
  split
  · simp
  · exact enc_length _ (by omega)
theorem enct_len (s : ByteArray) (hs : s.size ≤ 1000000) : (enct s).length ≤ s.size + 9 := by
  have := enc_length s.size (by omega)
  have h2 : s.data.toList.length = s.size := Array.length_toList
  unfold enct
  rw [List.length_append, h2]
  omega
theorem enct_len2 (s : ByteArray) (hs : s.size ≤ 2000) : (enct s).length ≤ 2009 := by have := enct_len s (by omega); omega
/-- Num, wherever the walk stands, onto bytes of its own. -/
theorem num_on {B : Nat} {w : World} {v : Value} {l : List UInt8} (h : Own 5 B w v l) (hB : B ≤ w.heap.size) (hl : l.length ≤ 600000) (n : Int) (hn : n < 9223372036854775808) : Calls Tryz.prog 53 #[v, .int .i64 n] w fun e w' => ∃ v', e = .returned v' ∧ Own 5 B w' v' (l ++ encz n) ∧ Below w.heap.size w w' := by
  obtain ⟨A, cap, b, rfl, hb⟩ := h.byt
  exact (num_any hb (by omega) n hn).mono fun _ _ ⟨v', h1, h2, h3⟩ => ⟨v', h1, h2.mono hB, h3⟩
theorem p_text_on {B : Nat} {w : World} {v : Value} {l : List UInt8} (h : Own 5 B w v l) (hB : B ≤ w.heap.size) (hl : l.length ≤ 600000) (s : ByteArray) (hs : s.size ≤ 1000000) : Calls Tryz.prog 52 #[v, .string s] w fun e w' => ∃ v', e = .returned v' ∧ Own 5 B w' v' (l ++ enct s) ∧ Below w.heap.size w w' := by
  obtain ⟨A, cap, b, rfl, hb⟩ := h.byt
  exact (p_text_any hb (by omega) s hs).mono fun _ _ ⟨v', h1, h2, h3⟩ => ⟨v', h1, h2.mono hB, h3⟩
end Go.Proofs.YtphijnkiiokieaaGreatDoor
namespace Go.Proofs.YtphijnkiiokieaaGreatDoor
open Go.RowKit
open Go.Lib hiding intOf
set_option linter.unusedVariables false
set_option linter.unusedSimpArgs false
set_option maxRecDepth 20000
theorem numP_step (l : List UInt8) (q : Ps) : q.p ≤ (numP l q).2.p ∧ ((numP l q).2.e = 0 → q.e = 0) := by
  unfold numP
  split
  · rename_i h; exact ⟨Nat.le_refl _, fun e => e⟩
  · rename_i h
    split
    · exact ⟨Nat.le_add_right _ _, fun _ => by omega⟩
    · exact ⟨Nat.le_refl _, fun _ => by omega⟩
theorem textP_step (most : Nat) (l : List UInt8) (q : Ps) : q.p ≤ (textP most l q).2.p ∧ ((textP most l q).2.e = 0 → q.e = 0 ∧ q.p + 1 ≤ (textP most l q).2.p) := by
  unfold textP
  split
  · rename_i h; exact ⟨Nat.le_refl _, fun e => absurd e h⟩
  · rename_i h
    split
    · rename_i h2; exact ⟨Nat.le_refl _, fun e => absurd e h2⟩
    · rename_i h2
      have hk := (rt_ok (l := l.drop q.p) (n := (rt (l.drop q.p)).1) (k := (rt (l.drop q.p)).2.1) (by
        have : (rt (l.drop q.p)).2.2 = 0 := by simpa using h2
        rw [← this])).2.1
      split
      · exact ⟨Nat.le_refl _, fun e => by cases e⟩
      · split
        · exact ⟨Nat.le_refl _, fun e => by cases e⟩
        · exact ⟨by show q.p ≤ _ + _ + _; omega, fun _ => ⟨by omega, by show q.p + 1 ≤ _ + _ + _; omega⟩⟩
theorem belowP_ps (m : Nat) (l : List UInt8) (q : Ps) (x : Bool) : (belowP m l q x).2.1 = (numP l q).2 := by
  unfold belowP
  split <;> rfl
theorem belowP_nat (m : Nat) (l : List UInt8) (q : Ps) (x : Bool) : 0 ≤ (belowP m l q x).1 ∧ (belowP m l q x).1 ≤ m := by
  have : 0 ≤ (numP l q).1 := by
    unfold numP
    split
    · exact Int.le_refl _
    · split
      · exact Int.natCast_nonneg _
      · exact Int.le_refl _
  unfold belowP
  split
  · simp
  · rename_i h; simp only at h ⊢; omega
theorem numP_lt (l : List UInt8) (q : Ps) : (numP l q).1 < 9223372036854775808 := by
  unfold numP
  split
  · show (0 : Int) < _; decide
  · split
    · rename_i h
      have := (rt_ok (l := l.drop q.p) (n := (rt (l.drop q.p)).1) (k := (rt (l.drop q.p)).2.1) (by rw [← h])).2.2.2
      show (((rt (l.drop q.p)).1 : Nat) : Int) < _
      omega
    · show (0 : Int) < _; decide
section
variable {l R : List UInt8} {p : Nat}
theorem drop_step {a : List UInt8} (h : l.drop p = a ++ R) : l.drop (p + a.length) = R := by
  rw [← List.drop_drop, h, List.drop_left]
theorem numP_enc {n : Int} (h : l.drop p = encz n ++ R) (h0 : 0 ≤ n) (h1 : n < 9223372036854775808) : numP l ⟨p, 0⟩ = (n, ⟨p + (encz n).length, 0⟩) := by
  have he : encz n = enc n.toNat := by unfold encz; rw [if_neg (by omega)]
  have hr : rt (l.drop p) = (n.toNat, (enc n.toNat).length, 0) := by rw [h, he]; exact rt_enc _ (by omega) _
  unfold numP
  rw [if_neg (by simp)]
  simp only [hr]
  rw [if_pos trivial, he, Int.toNat_of_nonneg h0]
theorem textP_enc {t : ByteArray} (h : l.drop p = enct t ++ R) (hs : t.size ≤ 20000) : textP 20000 l ⟨p, 0⟩ = (t, ⟨p + (enct t).length, 0⟩) := by
  have hl : t.data.toList.length = t.size := Array.length_toList
  have h' : l.drop p = enc t.size ++ (t.data.toList ++ R) := by rw [h]; unfold enct; rw [List.append_assoc]
  have hr : rt (l.drop p) = (t.size, (enc t.size).length, 0) := by rw [h']; exact rt_enc _ (by omega) _
  have hd : l.drop (p + (enc t.size).length) = t.data.toList ++ R := drop_step h'
  have hlen : t.size ≤ l.length - (p + (enc t.size).length) := by rw [← List.length_drop, hd, List.length_append]; omega
  have hz : l.length < p + (enc t.size).length + t.size → False := by
    intro hh
    rcases Nat.eq_zero_or_pos t.size with hz | hz
    · have h3 := congrArg List.length h'
      rw [List.length_drop, List.length_append] at h3
      have h4 : 1 ≤ (enc t.size).length := (rt_ok hr).2.1
      omega
    · omega
  unfold textP
  rw [if_neg (by simp)]
  simp only [hr]
  rw [if_neg (by simp), if_neg (fun hh => hz hh), if_neg (by omega), hd, List.take_left' hl]
  unfold enct
  rw [List.length_append, hl, Nat.add_assoc]
theorem belowP_enc {n : Int} {m : Nat} {x : Bool} (h : l.drop p = encz n ++ R) (h0 : 0 ≤ n) (h1 : n ≤ m) (hm : m ≤ 2147483647) : belowP m l ⟨p, 0⟩ x = (n, ⟨p + (encz n).length, 0⟩, x) := by
  unfold belowP
  rw [numP_enc h h0 (by omega), if_neg (by omega)]
theorem markP_enc {b x : Bool} (h : l.drop p = encz (b01 b) ++ R) : markP l ⟨p, 0⟩ x = (b, ⟨p + (encz (b01 b)).length, 0⟩, x) := by
  unfold markP
  rw [belowP_enc (m := 1) h (by cases b <;> decide) (by cases b <;> decide) (by decide)]
  cases b <;> rfl
end
section
variable {l : List UInt8} {q : Ps} {x : Bool}
theorem numP_nat (l : List UInt8) (q : Ps) : 0 ≤ (numP l q).1 := by
  unfold numP
  split
  · exact Int.le_refl _
  · split
    · exact Int.natCast_nonneg _
    · exact Int.le_refl _
theorem numP_dec (h : (numP l q).2.e = 0) : q.e = 0 ∧ l.take (numP l q).2.p = l.take q.p ++ encz (numP l q).1 := by
  unfold numP at h ⊢
  split
  · rename_i h1; rw [if_pos h1] at h; exact absurd h h1
  · rename_i h1
    rw [if_neg h1] at h
    split
    · rename_i h2
      have h3 := rt_ok (l := l.drop q.p) (n := (rt (l.drop q.p)).1) (k := (rt (l.drop q.p)).2.1) (by rw [← h2])
      refine ⟨by simpa using h1, ?_⟩
      show l.take (q.p + (rt (l.drop q.p)).2.1) = _
      rw [List.take_add, ← h3.1]
      congr 1
    · rename_i h2; rw [if_neg h2] at h; exact absurd h h2
theorem textP_dec (h : (textP 20000 l q).2.e = 0) : q.e = 0 ∧ l.take (textP 20000 l q).2.p = l.take q.p ++ enct (textP 20000 l q).1 ∧ (textP 20000 l q).1.size ≤ 20000 := by
  unfold textP at h ⊢
  split
  · rename_i h1; rw [if_pos h1] at h; exact absurd h h1
  · rename_i h1
    rw [if_neg h1] at h
    split
    · rename_i h2; rw [if_pos h2] at h; exact absurd h h2
    · rename_i h2
      rw [if_neg h2] at h
      split
      · rename_i h3; rw [if_pos h3] at h; exact absurd h (show ¬ (14 : Int) = 0 by decide)
      · rename_i h3
        rw [if_neg h3] at h
        split
        · rename_i h4; rw [if_pos h4] at h; exact absurd h (show ¬ (2 : Int) = 0 by decide)
        · rename_i h4
          have h2' : (rt (l.drop q.p)).2.2 = 0 := by simpa using h2
          have h5 := rt_ok (l := l.drop q.p) (n := (rt (l.drop q.p)).1) (k := (rt (l.drop q.p)).2.1) (by rw [← h2'])
          have hsz : (⟨((l.drop (q.p + (rt (l.drop q.p)).2.1)).take (rt (l.drop q.p)).1).toArray⟩ : ByteArray).size = (rt (l.drop q.p)).1 := by
            show Array.size _ = _
            rw [List.size_toArray, List.length_take, List.length_drop]
            omega
          refine ⟨by simpa using h1, ?_, by show (⟨_⟩ : ByteArray).size ≤ 20000; rw [hsz]; omega⟩
          show l.take (q.p + (rt (l.drop q.p)).2.1 + (rt (l.drop q.p)).1) = l.take q.p ++ enct _
          rw [List.take_add, List.take_add, ← h5.1]
          unfold enct
          rw [hsz, List.append_assoc]
theorem belowP_dec {m : Nat} (h : (belowP m l q x).2.1.e = 0) (hx : (belowP m l q x).2.2 = false) : q.e = 0 ∧ x = false ∧ l.take (belowP m l q x).2.1.p = l.take q.p ++ encz (belowP m l q x).1 := by
  unfold belowP at h hx ⊢
  split
  · rename_i h1; rw [if_pos h1] at hx; cases hx
  · rename_i h1
    rw [if_neg h1] at h hx
    exact ⟨(numP_dec h).1, hx, (numP_dec h).2⟩
theorem markP_dec (h : (markP l q x).2.1.e = 0) (hx : (markP l q x).2.2 = false) : q.e = 0 ∧ x = false ∧ l.take (markP l q x).2.1.p = l.take q.p ++ encz (b01 (markP l q x).1) := by
  have h1 := belowP_dec (m := 1) h hx
  refine ⟨h1.1, h1.2.1, ?_⟩
  have h2 := belowP_nat 1 l q x
  have h3 : b01 (markP l q x).1 = (belowP 1 l q x).1 := by
    show b01 ((belowP 1 l q x).1 == 1) = _
    have : (belowP 1 l q x).1 = 0 ∨ (belowP 1 l q x).1 = 1 := by omega
    rcases this with e | e <;> rw [e] <;> rfl
  rw [h3]
  exact h1.2.2
end
theorem wread_any {A : Option Addr} {len cap b off : Nat} {w : World} {l : List UInt8} (h : Byt w A len cap b off l) :
    Calls Tryz.prog 30 #[.slice A len cap] w fun e w' => ∃ G g, e = .returned (.pointer (some ⟨G, 0, none⟩)) ∧ Wi w' G g ⟨l.toArray⟩ ⟨0, 0⟩ false ∧ w.heap.size ≤ g ∧ w.heap.size ≤ G ∧ Below w.heap.size w w' := by
  have HR := Lib.hid (read_any h)
  clear h
  go_enter Tryz.func30, Tryz.ntmps30
  go_wp2_with fail
  refine HR.out.mono ?_
  rintro _ w1 ⟨rfl, h1, h2⟩
  have H1 := Lib.hid h1
  have H2 := Lib.hid h2
  clear h1 h2
  go_wp2
  go_ret
  have hlt := H1.out.lt
  refine ⟨w1.heap.size, w.heap.size, rfl, ⟨Blk.new w1 _ _, H1.out.alloc _, by omega, Nat.zero_le _⟩, Nat.le_refl _, by omega, H2.out.alloc H2.out.size _⟩
def doneP (n : Nat) (q : Ps) (x : Bool) : Bool := !x && (q.e == 0) && decide (q.p = n)
section
variable {w : World} {G g : Nat} {s : ByteArray} {q : Ps} {x : Bool}
theorem Wi.keep {w' : World} (h : Wi w G g s q x) (hb : Below w.heap.size w w') : Wi w' G g s q x := ⟨h.bx.below hb h.bx.lt, h.rd.below hb h.rd.lt, h.ne, h.hp⟩
set_option maxHeartbeats 2000000 in
theorem wdone_any (h : Wi w G g s q x) (hs : s.size ≤ 1000000) : Calls Tryz.prog 36 #[.pointer (some ⟨G, 0, none⟩)] w fun r w' => r = .returned (.bool (doneP s.size q x)) ∧ Below w.heap.size w w' := by
  have c0 := h.bx.cell 0
  have c1 := h.bx.cell 1
  have HW := Lib.hid h
  have hp := h.hp
  obtain ⟨r, hr⟩ : ∃ r, doneP s.size q x = r := ⟨_, rfl⟩
  have HR := Lib.hid (show (!x && (q.e == 0) && decide (q.p = s.size)) = r from hr)
  rw [hr]
  clear h hr
  cases x with
  | true =>
    have H0 := Lib.hid (show r = false by rw [← HR.out]; rfl)
    go_enter Tryz.func36, Tryz.ntmps36
    go_wp2
    go_ret
    exact ⟨by rw [H0.out]; rfl, Below.refl _ _⟩
  | false =>
    have HE := Lib.hid (err_any HW.out.rd)
    cases he : (q.e == 0) with
    | false =>
      have H0 := Lib.hid (show r = false by rw [← HR.out, he]; rfl)
      go_enter Tryz.func36, Tryz.ntmps36
      go_wp2_with fail
      refine HE.out.mono ?_
      rintro _ w1 ⟨rfl, h1⟩
      have H1 := Lib.hid h1
      clear h1
      go_wp2
      go_ret
      exact ⟨by rw [H0.out]; rfl, H1.out⟩
    | true =>
      have HQ := Lib.hid (show r = decide (q.p = s.size) by rw [← HR.out, he]; rfl)
      go_enter Tryz.func36, Tryz.ntmps36
      go_wp2_with fail
      refine HE.out.mono ?_
      rintro _ w1 ⟨rfl, h1⟩
      have HW1 := Lib.hid (HW.out.keep h1)
      have H1 := Lib.hid h1
      have d0 := HW1.out.bx.cell 0
      have HL := Lib.hid (left_any HW1.out.rd (by omega) (by omega) hs)
      clear h1
      by_cases hq : q.p = s.size
      · have H0 := Lib.hid (show r = true by rw [HQ.out, decide_eq_true hq])
        have dl : ((s.size : Int) - (q.p : Int) == 0) = true := by simp; omega
        go_wp2_with fail
        refine HL.out.mono ?_
        rintro _ w2 ⟨rfl, h1⟩
        have H2 := Lib.hid (H1.out.trans (h1.mono H1.out.size))
        clear h1
        go_wp2
        go_ret
        exact ⟨by rw [H0.out]; rfl, H2.out⟩
      · have H0 := Lib.hid (show r = false by rw [HQ.out, decide_eq_false hq])
        have dl : ((s.size : Int) - (q.p : Int) == 0) = false := by simp; omega
        go_wp2_with fail
        refine HL.out.mono ?_
        rintro _ w2 ⟨rfl, h1⟩
        have H2 := Lib.hid (H1.out.trans (h1.mono H1.out.size))
        clear h1
        go_wp2
        go_ret
        exact ⟨by rw [H0.out]; rfl, H2.out⟩
end
theorem own_tw {w1 w2 : World} {base G g : Nat} {e : TypeId} {k n : Nat} {v : Value} {xs : List Value} (h : w1.ownsRow base e k v n xs) (ht : Tw2 w1 w2 G g) (h1 : G < base) (h2 : g < base) : w2.ownsRow base e k v n xs := by
  obtain ⟨h0, h3 | ⟨b, cap, cur, e1, e2, e3, e4⟩⟩ := h
  · exact ⟨h0, .inl h3⟩
  · exact ⟨h0, .inr ⟨b, cap, cur, e1, e2, (ht.block b (Blk.lt e3) (by omega) (by omega)).trans e3, e4⟩⟩
theorem Tw2.ofBelow {w w' : World} {G g : Nat} (h : Below w.heap.size w w') : Tw2 w w' G g := ⟨h.os, h.tape, h.output, h.size, fun j h1 _ _ => h.block j h1⟩
theorem Tw2.far {w0 w : World} {G g : Nat} (h : Tw2 w0 w G g) {p : Addr} (hp : w0.heap.size ≤ p.block) (u : Value) : Tw2 w0 (w.setCell p u) G g :=
  ⟨h.os, h.tape, h.output, by simpa [World.setCell] using h.size, fun j h1 h2 h3 => (Below.heap_setCell w p u j (by omega)).trans (h.block j h1 h2 h3)⟩
theorem results_cell1 {fn : Func} {p u : Tmp} {ty : TypeId} (h : fn.results = #[.cell p ty, .tmp u]) (tmps : Array Value) (P : Program) (w : World) (g : Nat) (t : TypeId) (cs : Array Value) (fr : Nat × Nat) (fs : Array Field)
    (hp : tmps.getD p undef = .pointer (some ⟨g, 0, none⟩)) (hg : w.heap[g]? = some (.cells cs t fr))
    (hu : P.underlying ty = some (.struct fs)) (hi : (P.info? ty).map (·.size) = some cs.size) :
    (results fn tmps).run P w = .ok (.tuple #[.agg cs, tmps.getD u undef]) w := by
  have hp' : tmps[p]?.getD undef = .pointer (some ⟨g, 0, none⟩) := by simpa using hp
  simp [results, h, hp', asAddr, run_loadVar_row w g t ty cs fr _ hg hu rfl hi]
theorem Byt.on {w w' : World} {A : Option Addr} {len cap b off : Nat} {l : List UInt8} (h : Byt w A len cap b off l) (hb : Below w.heap.size w w') : Byt w' A len cap b off l :=
  ⟨h.hlen, h.le, h.hmax, fun hl => ⟨(h.addr hl).1, Nat.lt_of_lt_of_le (h.addr hl).2 hb.size⟩, fun j u hj => by
    have hlt : j < l.length := (List.getElem?_eq_some_iff.1 hj).1
    have hbb := (h.addr (by have := h.hlen; omega)).2
    rw [hb.cell (p := ⟨b, _, none⟩) hbb]
    exact h.cell j u hj⟩
end Go.Proofs.YtphijnkiiokieaaGreatDoor
