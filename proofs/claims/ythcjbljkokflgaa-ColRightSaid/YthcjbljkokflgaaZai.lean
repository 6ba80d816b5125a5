/- Maps over trees (values: Int): under, inside a fence. -/
import Derived.Test.YthcjbljkokflgaaZah
import Derived.RangeFuncNested
import Derived.RangeFuncBound
import Derived.RangeFuncCalls
import Derived.RangeFuncLeaves
import Derived.Shelf.Abstract
import Derived.Shelf.RegionOpen
import Derived.Stop.RegionWithIn
import Derived.OwnWalkIn
import Derived.TacticsInMore
import Derived.LoopNIn
import Derived.LoopIn
set_option linter.unnecessarySimpa false
/- Maps over trees (values: Int): Len, Get, Place, At. -/
namespace Go.Proofs.Ythcjbljkokflgaa.OI
open Go.RowKit
open Go.Lib
set_option linter.unusedVariables false
set_option linter.unusedSimpArgs false
set_option maxRecDepth 100000
def ov (o : Option (Int)) : Value := .int .i64 (o.getD 0)
def nodeSz (w : World) : Value → Nat
  | .pointer (some a) => match w.cell? ⟨a.block, 2, none⟩ with
    | some (.int _ n) => n.toNat
    | _ => 0
  | _ => 0
theorem nodeSz_of {w : World} {b : Nat} {k : ByteArray} {v : Int} {n : Nat} {pl pr : Option Addr} (h : Blk w b 138 (ncs k v ((n : Nat) : Int) pl pr)) : nodeSz w (.pointer (some ⟨b, 0, none⟩)) = n := by
  have h2 : w.cell? ⟨b, 2, none⟩ = some (.int .i64 (n : Int)) := h.cell 2
  show (match w.cell? ⟨b, 2, none⟩ with
    | some (.int _ n) => n.toNat
    | _ => 0) = n
  rw [h2]
  simp
theorem isz {w : World} {t : T} {p : Option Addr} (h : IsT w t p) : nodeSz w (.pointer p) = t.size := by
  cases t with
  | nil => obtain rfl : p = none := h; rfl
  | node k v l r =>
    obtain ⟨b, pl, pr, rfl, hb, _, _⟩ := h
    exact nodeSz_of hb
theorem nodeSz_nil (w : World) : nodeSz w (.pointer none) = 0 := rfl
/-- A map: its box, and the tree. -/
def Mt (w : World) (g : Nat) (t : T) : Prop := ∃ p, Blk w g 135 #[.pointer p] ∧ IsT w t p
theorem Mt.below {w w' : World} {g : Nat} {t : T} (h : Mt w g t) (hb : Below w.heap.size w w') : Mt w' g t := by
  obtain ⟨p, h1, h2⟩ := h
  exact ⟨p, h1.below hb h1.lt, h2.below hb⟩
theorem len_any {w : World} {g : Nat} {t : T} (h : Mt w g t) : Calls Try.prog 68 #[.pointer (some ⟨g, 0, none⟩)] w fun e w' => e = .returned (.int .i64 (t.size : Int)) ∧ w' = w := by
  obtain ⟨p, h1, h2⟩ := h
  have c0 : w.cell? ⟨g, 0, none⟩ = some (.pointer p) := h1.cell 0
  have HS := Lib.hid (size_any h2)
  clear h1 h2
  go_enter Try.func68, Try.ntmps68
  go_wp2_with fail
  refine HS.out.mono ?_
  rintro _ wz ⟨rfl, hw0⟩
  replace hw0 := hw0.symm
  subst hw0
  go_wp2
  go_ret
  exact ⟨rfl, rfl⟩
set_option maxHeartbeats 4000000 in
theorem get_any {w : World} {g : Nat} {t : T} (h : Mt w g t) (k : ByteArray) : Calls Try.prog 66 #[.pointer (some ⟨g, 0, none⟩), .string k] w fun e w' => e = .returned (.tuple #[ov (Tr.get k t), .bool (Tr.get k t).isSome]) ∧ w' = w := by
  obtain ⟨p, h1, h2⟩ := h
  have c0 : w.cell? ⟨g, 0, none⟩ = some (.pointer p) := h1.cell 0
  have HT := Lib.hid h2
  obtain ⟨o, ho⟩ : ∃ o, Tr.get k t = o := ⟨_, rfl⟩
  have HO := Lib.hid ho
  rw [ho]
  clear h1 h2 ho
  go_enter Try.func66, Try.ntmps66
  go_wp2_with fail
  go_loop [6] (fun q => ∃ (t' : T) (pq : Option Addr), q = .pointer pq ∧ IsT w t' pq ∧ Tr.get k t' = o) (fun q => nodeSz w q)
  case atStart => exact ⟨_, _, rfl, HT.out, HO.out⟩
  case round =>
    obtain ⟨t', pq, rfl, ht, hg⟩ := hrel
    have HG := Lib.hid hg
    cases t' with
    | nil =>
      obtain rfl : pq = none := ht
      obtain rfl : o = none := HG.out.symm
      clear hg
      go_wp2
      go_ret2
      exact ⟨rfl, rfl⟩
    | node k' v' l r =>
      obtain ⟨b, pl, pr, rfl, hB, hl, hr⟩ := ht
      have d0 : w.cell? ⟨b, 0, none⟩ = some (.string k') := hB.cell 0
      have d1 : w.cell? ⟨b, 1, none⟩ = some (.int .i64 v') := hB.cell 1
      have d3 : w.cell? ⟨b, 3, none⟩ = some (.pointer pl) := hB.cell 3
      have d4 : w.cell? ⟨b, 4, none⟩ = some (.pointer pr) := hB.cell 4
      have HM := Lib.hid (show nodeSz w (.pointer (some ⟨b, 0, none⟩)) = _ from nodeSz_of hB)
      have HL := Lib.hid hl
      have HR := Lib.hid hr
      have HGE := Lib.hid (show (if klt k k' = true then Tr.get k l else if k = k' then some v' else Tr.get k r) = o from hg)
      have HLM := Lib.hid (isz hl)
      have HRM := Lib.hid (isz hr)
      clear hg hB hl hr HG
      by_cases hk : klt k k' = true
      · have hkb : Op.bytesLess k.toList k'.toList = true := hk
        have HG2 := Lib.hid ((if_pos hk).symm.trans HGE.out)
        clear hk
        go_wp2_with fail
        go_round
        case rel => exact ⟨l, _, rfl, HL.out, HG2.out⟩
        case measure => rw [HM.out, HLM.out]; omega
      · have hkb : Op.bytesLess k.toList k'.toList = false := by have : klt k k' = false := by simpa using hk
                                                                 exact this
        by_cases he : k = k'
        · have HG2 := Lib.hid ((if_pos he).symm.trans ((if_neg hk).symm.trans HGE.out))
          subst he
          clear hk
          have hoo := HG2.out
          subst hoo
          go_wp2
          go_ret2
          exact ⟨rfl, rfl⟩
        · have HG2 := Lib.hid ((if_neg he).symm.trans ((if_neg hk).symm.trans HGE.out))
          have heb : (k.toList == k'.toList) = false := by rw [keq]; exact decide_eq_false he
          clear hk he
          go_wp2_with fail
          go_round
          case rel => exact ⟨r, _, rfl, HR.out, HG2.out⟩
          case measure => rw [HM.out, HRM.out]; omega
end Go.Proofs.Ythcjbljkokflgaa.OI
/- Maps over trees (values: Int): At; what a call leaves; Put, Del by lists. -/
namespace Go.Proofs.Ythcjbljkokflgaa.OI
open Go.RowKit
open Go.Lib
set_option linter.unusedVariables false
set_option linter.unusedSimpArgs false
set_option maxRecDepth 100000
/-- What a call on a map leaves as it was: all but its box. -/
structure Ko (w w' : World) (g : Nat) : Prop where
  os : w'.os = w.os
  tape : w'.tape = w.tape
  output : w'.output = w.output
  size : w.heap.size ≤ w'.heap.size
  block : ∀ j, j < w.heap.size → j ≠ g → w'.heap[j]? = w.heap[j]?
theorem Ko.below {w w' : World} {g B : Nat} (h : Ko w w' g) (hg : B ≤ g) (hB : B ≤ w.heap.size) : Below B w w' := ⟨h.os, h.tape, h.output, h.size, fun j hj => h.block j (by omega) (by omega)⟩
theorem Ko.of {w w' : World} {g : Nat} (h : Below w.heap.size w w') : Ko w w' g := ⟨h.os, h.tape, h.output, h.size, fun j hj _ => h.block j hj⟩
theorem Ko.trans {a b c : World} {g : Nat} (h : Ko a b g) (k : Ko b c g) : Ko a c g := ⟨k.os.trans h.os, k.tape.trans h.tape, k.output.trans h.output, Nat.le_trans h.size k.size, fun j hj hn => (k.block j (Nat.lt_of_lt_of_le hj h.size) hn).trans (h.block j hj hn)⟩
theorem Ko.keepN {w w' : World} {g : Nat} {t : TypeId} {cs : Array Value} (h : Ko w w' g) (hb : Blk w g t cs) (ht : t ≠ 138) : KeepN w w' := fun b cs2 x => (h.block b x.lt (fun e => by
  subst e
  unfold Blk at hb x
  rw [hb] at x
  cases x
  exact ht rfl)).trans x
/-- A map's root is another tree. -/
theorem root_set {w w1 : World} {g : Nat} {t' : T} {p p1 : Option Addr} (hb : Blk w g 135 #[.pointer p]) (h1 : Below w.heap.size w w1) (ht : IsT w1 t' p1) : Mt (w1.setCell ⟨g, 0, none⟩ (.pointer p1)) g t' ∧ Ko w (w1.setCell ⟨g, 0, none⟩ (.pointer p1)) g := by
  have hb1 := hb.below h1 hb.lt
  refine ⟨⟨p1, hb1.set_ 0 _, ht.keep (KeepN.set hb1 (by decide) 0 _)⟩, ⟨h1.os, h1.tape, h1.output, ?_, fun j hj hn => (Below.heap_setCell w1 ⟨g, 0, none⟩ _ j hn).trans (h1.block j hj)⟩⟩
  have := h1.size
  simpa [World.setCell] using this
theorem put_map {w : World} {g : Nat} {t : T} (h : Mt w g t) (hs : t.size ≤ 40000) (k : ByteArray) (v : Int) : Calls Try.prog 67 #[.pointer (some ⟨g, 0, none⟩), .string k, .int .i64 v] w fun e w' => e = .returned (.bool (decide (t.size < (Tr.put k v t).size))) ∧ Mt w' g (Tr.put k v t) ∧ Ko w w' g := by
  have HLN := Lib.hid (len_any h)
  obtain ⟨p, h1, h2⟩ := h
  have c0 : w.cell? ⟨g, 0, none⟩ = some (.pointer p) := h1.cell 0
  have HB := Lib.hid h1
  have HP := Lib.hid (put_any k v h2 (by omega))
  obtain ⟨t', ht'⟩ : ∃ t', Tr.put k v t = t' := ⟨_, rfl⟩
  rw [ht'] at HP ⊢
  obtain ⟨n, hn⟩ : ∃ n, t.size = n := ⟨_, rfl⟩
  rw [hn] at HLN ⊢
  obtain ⟨m, hm⟩ : ∃ m, t'.size = m := ⟨_, rfl⟩
  have HM := Lib.hid hm
  rw [hm]
  clear h1 h2 ht' hn hm
  go_enter Try.func67, Try.ntmps67
  go_wp2_with fail
  refine HLN.out.mono ?_
  rintro _ wz ⟨rfl, hw0⟩
  replace hw0 := hw0.symm
  subst hw0
  go_wp2_with fail
  refine HP.out.mono ?_
  rintro _ w1 ⟨p1, rfl, ht1, hb1⟩
  have HR := Lib.hid (root_set HB.out hb1 ht1)
  have b1 := HB.out.below hb1 HB.out.lt
  have d0 := b1.cell 0
  have f0 := b1.frozen 0
  clear ht1 hb1 b1
  go_wp2_with fail
  refine (len_any HR.out.1).mono ?_
  rintro _ wz ⟨rfl, hw0⟩
  replace hw0 := hw0.symm
  subst hw0
  rw [HM.out]
  go_wp2
  go_ret
  exact ⟨by first | rfl | (congr 2; simp) | congr 2, HR.out.1, HR.out.2⟩
theorem new_map (w : World) : Calls Try.prog 64 #[] w fun e w' => ∃ g, e = .returned (.pointer (some ⟨g, 0, none⟩)) ∧ Mt w' g .nil ∧ Below w.heap.size w w' ∧ w.heap.size ≤ g := by
  go_enter Try.func64, Try.ntmps64
  go_wp2
  go_ret
  exact ⟨w.heap.size, rfl, ⟨none, Blk.new w 135 _, rfl⟩, (Below.refl _ w).alloc (Nat.le_refl _) _, Nat.le_refl _⟩
end Go.Proofs.Ythcjbljkokflgaa.OI
/- Maps over trees (values: Int), told by rising lists. -/
namespace Go.Proofs.Ythcjbljkokflgaa.OI
open Go.RowKit
open Go.Lib
set_option linter.unusedVariables false
set_option linter.unusedSimpArgs false
set_option maxRecDepth 100000
def Om (w : World) (g : Nat) (L : List (ByteArray × Int)) : Prop := ∃ t, Mt w g t ∧ t.ino = L ∧ Srt L
section
variable {w w' : World} {g : Nat} {L : List (ByteArray × Int)}
theorem Om.srt (h : Om w g L) : Srt L := by
  obtain ⟨t, _, _, h⟩ := h
  exact h
theorem Om.lt (h : Om w g L) : g < w.heap.size := by
  obtain ⟨t, ⟨p, h, _⟩, _⟩ := h
  exact h.lt
theorem Om.below (h : Om w g L) (hb : Below w.heap.size w w') : Om w' g L := by
  obtain ⟨t, h1, h2⟩ := h
  exact ⟨t, h1.below hb, h2⟩
/-- Its box and all nodes are as they were. -/
theorem Om.keep (h : Om w g L) (hg : w'.heap[g]? = w.heap[g]?) (hk : KeepN w w') : Om w' g L := by
  obtain ⟨t, ⟨p, h1, h3⟩, h2⟩ := h
  exact ⟨t, ⟨p, hg.trans h1, h3.keep hk⟩, h2⟩
theorem Om.box (h : Om w g L) : ∃ p, Blk w g 135 #[.pointer p] := by
  obtain ⟨t, ⟨p, h1, _⟩, _⟩ := h
  exact ⟨p, h1⟩
theorem om_new (w : World) : Calls Try.prog 64 #[] w fun e w' => ∃ g, e = .returned (.pointer (some ⟨g, 0, none⟩)) ∧ Om w' g [] ∧ Below w.heap.size w w' ∧ w.heap.size ≤ g := by
  refine (new_map w).mono ?_
  rintro _ w' ⟨g, rfl, h1, h2, h3⟩
  exact ⟨g, rfl, ⟨_, h1, rfl, List.Pairwise.nil⟩, h2, h3⟩
theorem om_len (h : Om w g L) : Calls Try.prog 68 #[.pointer (some ⟨g, 0, none⟩)] w fun e w' => e = .returned (.int .i64 (L.length : Int)) ∧ w' = w := by
  obtain ⟨t, h1, rfl, h2⟩ := h
  rw [← Tr.size_ino]
  exact len_any h1
theorem om_get (h : Om w g L) (k : ByteArray) (o : Option (Int)) (ho : getL k L = o) : Calls Try.prog 66 #[.pointer (some ⟨g, 0, none⟩), .string k] w fun e w' => e = .returned (.tuple #[ov o, .bool o.isSome]) ∧ w' = w := by
  subst ho
  obtain ⟨t, h1, rfl, h2⟩ := h
  rw [← Tr.get_ino h2]
  exact get_any h1 k
theorem om_put (h : Om w g L) (hn : L.length ≤ 40000) (k : ByteArray) (v : Int) (o : Bool) (ho : (getL k L).isSome = o) : Calls Try.prog 67 #[.pointer (some ⟨g, 0, none⟩), .string k, .int .i64 v] w fun e w' => e = .returned (.bool (!o)) ∧ Om w' g (insL k v L) ∧ Ko w w' g := by
  subst ho
  obtain ⟨t, h1, rfl, h2⟩ := h
  refine (put_map h1 (by rw [Tr.size_ino]; exact hn) k v).mono ?_
  rintro _ w' ⟨rfl, h3, h4⟩
  refine ⟨?_, ⟨_, h3, Tr.ino_put h2, h2.ins⟩, h4⟩
  congr 2
  rw [Tr.size_ino, Tr.size_ino, Tr.ino_put h2, insL_len h2]
  cases (getL k t.ino).isSome <;> simp
end
end Go.Proofs.Ythcjbljkokflgaa.OI
namespace Go.Proofs.Ythcjbljkokflgaa.OI
open Go.RowKit
open Go.Lib
set_option linter.unusedVariables false
set_option linter.unusedSimpArgs false
set_option maxRecDepth 100000
open Go.Shelf
attribute [local go_sem] Oper.semAt_some
theorem room_of_none {F : Fence} (hd : F.depth = none) (k : Nat) : F.room k := fun d h => by rw [hd] at h; cases h
theorem RoundIn_anyDepth {F : Fence} (hd : F.depth = none) {m m' : Nat} {P : Program} {l : Nat} {f : FuncId} {tmps : Array Value} {assign body : Code} {w : World} {R : Ending → World → Prop}
    (h : RoundIn F m P l f tmps assign body w R) : RoundIn F m' P l f tmps assign body w R := ⟨h.1, fun c cs _ => h.2 c cs (room_of_none hd _)⟩
theorem YieldAt_anyDepth {F : Fence} (hd : F.depth = none) {m : Nat} (m' : Nat) {P : Program} {l : Nat} {args : Array Value} {W : World} {R : Ending → World → Prop} (h : YieldAt F m P l args W R) : YieldAt F m' P l args W R := by
  obtain ⟨fn, tmps, assign, body, hy, hR⟩ := h
  exact ⟨fn, tmps, assign, body, hy, RoundIn_anyDepth hd hR⟩
theorem ite_no {x : Bool} {A B : Prop} (h : x = false) (hb : B) : if x = true then A else B := by
  subst h; rw [if_neg Bool.false_ne_true]; exact hb
abbrev It := ByteArray × Int
def enI (x : It) : Array Value := #[.string x.1, .int .i64 x.2]
theorem hasPre_lib (a b : ByteArray) (w : World) (ha : a.size ≤ 1000000) (hb : b.size ≤ 1000000) : Calls Try.prog 93 #[.string a, .string b] w fun e w' => e = .returned (.bool (preB b a)) ∧ w' = w := by
  have HE := Lib.hid (show preB b a = (decide (b.size ≤ a.size) && ((a.extract 0 b.size).toList == b.toList)) from rfl)
  by_cases h : b.size ≤ a.size
  · have hI : (a.size : Int) ≥ (b.size : Int) := by omega
    have hE := HE.out
    rw [decide_eq_true h] at hE
    have HE2 := Lib.hid hE
    clear hE h
    go_enter Try.func93, Try.ntmps93
    go_wp2
    go_ret
    rw [HE2.out]
    exact ⟨rfl, rfl⟩
  · have hI : ¬ (a.size : Int) ≥ (b.size : Int) := by omega
    have hE := HE.out
    rw [decide_eq_false h] at hE
    have HE2 := Lib.hid hE
    clear hE h
    go_enter Try.func93, Try.ntmps93
    go_wp2
    go_ret
    rw [HE2.out]
    exact ⟨rfl, rfl⟩
theorem hasPre_any (a b : ByteArray) (w : World) (ha : a.size ≤ 1000000) (hb : b.size ≤ 1000000) : Calls Try.prog 88 #[.string a, .string b] w fun e w' => e = .returned (.bool (preB b a)) ∧ w' = w := by
  have H := Lib.hid (hasPre_lib a b w ha hb)
  go_enter Try.func88, Try.ntmps88
  go_wp2_with fail
  refine H.out.mono ?_
  rintro _ wz ⟨rfl, hw0⟩
  replace hw0 := hw0.symm
  subst hw0
  go_wp2
  go_ret
  exact ⟨rfl, rfl⟩
end Go.Proofs.Ythcjbljkokflgaa.OI
