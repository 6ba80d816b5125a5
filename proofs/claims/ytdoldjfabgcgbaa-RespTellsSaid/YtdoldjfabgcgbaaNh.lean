/- The reference's reader: the number at a place. -/
import Derived.Test.YtdoldjfabgcgbaaNg
import Derived.BigQuiet
namespace Go.Proofs.Ytdoldjfabgcgbaa
open Go.RowKit
open Go.Lib hiding intOf
set_option linter.unusedVariables false
set_option linter.unusedSimpArgs false
set_option maxRecDepth 100000
/-- The reference's reader in its box: over bytes; where it stands, its error. -/
structure Rr (w : World) (g : Nat) (A : Option Addr) (cap b off : Nat) (l : List UInt8) (p : Nat) (e : Int) : Prop where
  bx : Blk w g 53 #[.slice A l.length cap, .int .i64 (p : Int), .int .i64 e]
  byt : Byt w A l.length cap b off l
  ne : 0 < l.length → b ≠ g
  hp : p ≤ l.length
section
variable {w w' : World} {g : Nat} {A : Option Addr} {cap b off : Nat} {l : List UInt8} {p : Nat} {e : Int}
theorem Rr.keep (h : Rr w g A cap b off l p e) (hb : Below w.heap.size w w') : Rr w' g A cap b off l p e := ⟨h.bx.below hb h.bx.lt, h.byt.below hb, h.ne, h.hp⟩
theorem Rr.c0 (h : Rr w g A cap b off l p e) : w.cell? ⟨g, 0, none⟩ = some (.slice A l.length cap) := h.bx.cell 0
theorem Rr.c1 (h : Rr w g A cap b off l p e) : w.cell? ⟨g, 1, none⟩ = some (.int .i64 (p : Int)) := h.bx.cell 1
theorem Rr.c2 (h : Rr w g A cap b off l p e) : w.cell? ⟨g, 2, none⟩ = some (.int .i64 e) := h.bx.cell 2
/-- The number, where it ends, the error. -/
def lk (l : List UInt8) (p : Nat) : Array Value := #[.int .i64 ((rt (l.drop p)).1 : Int), .int .i64 (if (rt (l.drop p)).2.2 = 0 then ((p + (rt (l.drop p)).2.1 : Nat) : Int) else 0), .int .i64 (rt (l.drop p)).2.2]
theorem look_end (h : Rr w g A cap b off l p e) (hl : l.length ≤ 1000000) (hp : p = l.length) : Calls Try.prog 46 #[.pointer (some ⟨g, 0, none⟩)] w fun r w' => r = .returned (.tuple #[.int .i64 0, .int .i64 0, .int .i64 14]) ∧ Below w.heap.size w w' := by
  have c0 := h.c0
  have c1 := h.c1
  have H0 := Lib.hid (Below.refl w.heap.size w)
  have hlI : (l.length : Int) ≤ 1000000 := by omega
  have hpI : (l.length : Int) ≤ (p : Int) := by omega
  clear h
  go_enter Try.func46, Try.ntmps46
  go_wp2
  go_quiet (fail)
  go_wp2
  go_ret3
  exact ⟨rfl, below_drewN H0.out _⟩
theorem look_one (h : Rr w g A cap b off l p e) (hl : l.length ≤ 1000000) {c : UInt8} (hc : l[p]? = some c) (h8 : (c.toNat : Int) < 248) : Calls Try.prog 46 #[.pointer (some ⟨g, 0, none⟩)] w fun r w' => r = .returned (.tuple #[.int .i64 (c.toNat : Int), .int .i64 ((p : Int) + 1), .int .i64 0]) ∧ Below w.heap.size w w' := by
  have hpl : p < l.length := (List.getElem?_eq_some_iff.1 hc).1
  have c0 := h.c0
  have c1 := h.c1
  obtain ⟨rfl, hbl⟩ := h.byt.addr (by omega)
  have cc := h.byt.cell p c hc
  have hcap : l.length ≤ cap := h.byt.le
  have H0 := Lib.hid (Below.refl w.heap.size w)
  have hlI : (l.length : Int) ≤ 1000000 := by omega
  have hpI : (p : Int) < (l.length : Int) := by omega
  have i1 : IntKind.i64.wrap ((p : Int) + 1) = (p : Int) + 1 := IntWalk.i64_in _ (by omega)
  have i2 : IntKind.i64.wrap (c.toNat : Int) = (c.toNat : Int) := IntWalk.i64_in _ (by omega)
  have i4 := i64_of_u8 c
  have i3 : IntKind.i64.wrap ((c.toNat : Int) - 247) = (c.toNat : Int) - 247 := IntWalk.i64_in _ (by omega)
  clear h hc
  go_enter Try.func46, Try.ntmps46
  go_wp2
  go_quiet (fail)
  go_wp2
  go_quiet (fail)
  go_wp2
  go_quiet (fail)
  go_wp2
  go_ret3
  exact ⟨rfl, by repeat (first | exact H0.out | refine below_drewN ?_ _)⟩
theorem look_cut (h : Rr w g A cap b off l p e) (hl : l.length ≤ 1000000) {c : UInt8} (hc : l[p]? = some c) (h8 : ¬ (c.toNat : Int) < 248) (hk : (l.length : Int) - (p : Int) - 1 < (c.toNat : Int) - 247) : Calls Try.prog 46 #[.pointer (some ⟨g, 0, none⟩)] w fun r w' => r = .returned (.tuple #[.int .i64 0, .int .i64 0, .int .i64 14]) ∧ Below w.heap.size w w' := by
  have hpl : p < l.length := (List.getElem?_eq_some_iff.1 hc).1
  have c0 := h.c0
  have c1 := h.c1
  obtain ⟨rfl, hbl⟩ := h.byt.addr (by omega)
  have cc := h.byt.cell p c hc
  have hcap : l.length ≤ cap := h.byt.le
  have H0 := Lib.hid (Below.refl w.heap.size w)
  have hlI : (l.length : Int) ≤ 1000000 := by omega
  have hpI : (p : Int) < (l.length : Int) := by omega
  have hcb := c.toNat_lt
  have i4 := i64_of_u8 c
  have i2 : IntKind.i64.wrap (c.toNat : Int) = (c.toNat : Int) := IntWalk.i64_in _ (by omega)
  have i3 : IntKind.i64.wrap ((c.toNat : Int) - 247) = (c.toNat : Int) - 247 := IntWalk.i64_in _ (by omega)
  have i5 : IntKind.i64.wrap ((l.length : Int) - (p : Int)) = (l.length : Int) - (p : Int) := IntWalk.i64_in _ (by omega)
  have i6 : IntKind.i64.wrap ((l.length : Int) - (p : Int) - 1) = (l.length : Int) - (p : Int) - 1 := IntWalk.i64_in _ (by omega)
  clear h hc
  go_enter Try.func46, Try.ntmps46
  go_wp2
  go_quiet (fail)
  go_wp2
  go_quiet (fail)
  go_wp2
  go_quiet (fail)
  go_wp2
  go_ret3
  exact ⟨rfl, by repeat (first | exact H0.out | refine below_drewN ?_ _)⟩
theorem look_zero (h : Rr w g A cap b off l p e) (hl : l.length ≤ 1000000) {c d : UInt8} (hc : l[p]? = some c) (h8 : ¬ (c.toNat : Int) < 248) (hk : ¬ (l.length : Int) - (p : Int) - 1 < (c.toNat : Int) - 247) (hd : l[p + 1]? = some d) (h0 : ((d.toNat : Int) == 0) = true) : Calls Try.prog 46 #[.pointer (some ⟨g, 0, none⟩)] w fun r w' => r = .returned (.tuple #[.int .i64 0, .int .i64 0, .int .i64 1]) ∧ Below w.heap.size w w' := by
  have hpl : p < l.length := (List.getElem?_eq_some_iff.1 hc).1
  have c0 := h.c0
  have c1 := h.c1
  obtain ⟨rfl, hbl⟩ := h.byt.addr (by omega)
  have cc := h.byt.cell p c hc
  have hcap : l.length ≤ cap := h.byt.le
  have H0 := Lib.hid (Below.refl w.heap.size w)
  have hlI : (l.length : Int) ≤ 1000000 := by omega
  have hpI : (p : Int) < (l.length : Int) := by omega
  have hcb := c.toNat_lt
  have i4 := i64_of_u8 c
  have i2 : IntKind.i64.wrap (c.toNat : Int) = (c.toNat : Int) := IntWalk.i64_in _ (by omega)
  have i3 : IntKind.i64.wrap ((c.toNat : Int) - 247) = (c.toNat : Int) - 247 := IntWalk.i64_in _ (by omega)
  have i5 : IntKind.i64.wrap ((l.length : Int) - (p : Int)) = (l.length : Int) - (p : Int) := IntWalk.i64_in _ (by omega)
  have i6 : IntKind.i64.wrap ((l.length : Int) - (p : Int) - 1) = (l.length : Int) - (p : Int) - 1 := IntWalk.i64_in _ (by omega)
  have i1 : IntKind.i64.wrap ((p : Int) + 1) = (p : Int) + 1 := IntWalk.i64_in _ (by omega)
  have j1 : (0 : Int) ≤ (p : Int) + 1 := by omega
  have j2 : (p : Int) + 1 < (l.length : Int) := by omega
  have j3 : ((p : Int) + 1).toNat = p + 1 := by omega
  have cd := h.byt.cell (p + 1) d hd
  clear h hc hd
  go_enter Try.func46, Try.ntmps46
  go_wp2
  go_quiet (fail)
  go_wp2
  go_quiet (fail)
  go_wp2
  go_quiet (fail)
  go_wp2
  go_quiet (fail)
  go_wp2
  go_ret3
  exact ⟨rfl, by repeat (first | exact H0.out | refine below_drewN ?_ _)⟩
set_option maxHeartbeats 4000000 in
theorem look_wide (h : Rr w g A cap b off l p e) (hl : l.length ≤ 1000000) {c d : UInt8} {t : List UInt8} {K : Nat} (hc : l[p]? = some c) (h8 : ¬ (c.toNat : Int) < 248) (hK : (c.toNat : Int) = 247 + K) (hk : p + 1 + K ≤ l.length) (ht : (l.drop (p + 1)).take K = t) (hd : l[p + 1]? = some d) (h0 : ((d.toNat : Int) == 0) = false) : Calls Try.prog 46 #[.pointer (some ⟨g, 0, none⟩)] w fun r w' => r = .returned (.tuple (if vl t < 248 ∨ 9223372036854775807 < vl t then #[.int .i64 0, .int .i64 0, .int .i64 1] else #[.int .i64 (vl t), .int .i64 ((p + (1 + K) : Nat) : Int), .int .i64 0])) ∧ Below w.heap.size w w' := by
  have hR := Lib.hid (fun (W : World) (hb : Below w.heap.size w W) => h.keep hb)
  have hpl : p < l.length := (List.getElem?_eq_some_iff.1 hc).1
  have c0 := h.c0
  have c1 := h.c1
  obtain ⟨rfl, hbl⟩ := h.byt.addr (by omega)
  have cc := h.byt.cell p c hc
  have hcap : l.length ≤ cap := h.byt.le
  have H0 := Lib.hid (Below.refl w.heap.size w)
  have hlI : (l.length : Int) ≤ 1000000 := by omega
  have hpI : (p : Int) < (l.length : Int) := by omega
  have hcb := c.toNat_lt
  have i4 := i64_of_u8 c
  have i2 : IntKind.i64.wrap (c.toNat : Int) = (c.toNat : Int) := IntWalk.i64_in _ (by omega)
  have i3 : IntKind.i64.wrap ((c.toNat : Int) - 247) = (c.toNat : Int) - 247 := IntWalk.i64_in _ (by omega)
  have i5 : IntKind.i64.wrap ((l.length : Int) - (p : Int)) = (l.length : Int) - (p : Int) := IntWalk.i64_in _ (by omega)
  have i6 : IntKind.i64.wrap ((l.length : Int) - (p : Int) - 1) = (l.length : Int) - (p : Int) - 1 := IntWalk.i64_in _ (by omega)
  have i1 : IntKind.i64.wrap ((p : Int) + 1) = (p : Int) + 1 := IntWalk.i64_in _ (by omega)
  have j1 : (0 : Int) ≤ (p : Int) + 1 := by omega
  have j2 : (p : Int) + 1 < (l.length : Int) := by omega
  have j3 : ((p : Int) + 1).toNat = p + 1 := by omega
  have j4 : ¬ (l.length : Int) - (p : Int) - 1 < (c.toNat : Int) - 247 := by omega
  have cd := h.byt.cell (p + 1) d hd
  have htl : t.length = K := by rw [← ht, List.length_take, List.length_drop]; omega
  have hK8 : K ≤ 8 := by omega
  have HTG := Lib.hid (show ∀ j, j < K → l[p + 1 + j]? = t[j]? from fun j hj => by rw [← ht, List.getElem?_take, if_pos hj, List.getElem?_drop])
  obtain ⟨X, hX⟩ : ∃ X, (if vl t < 248 ∨ 9223372036854775807 < vl t then #[Value.int .i64 0, .int .i64 0, .int .i64 1] else #[.int .i64 (vl t), .int .i64 ((p + (1 + K) : Nat) : Int), .int .i64 0]) = X := ⟨_, rfl⟩
  have HX := Lib.hid hX
  rw [hX]
  have hkk : (c.toNat : Int) - 247 = (K : Int) := by omega
  clear h hc hd ht hX
  go_enter Try.func46, Try.ntmps46
  go_wp2
  go_quiet (fail)
  go_wp2
  go_quiet (fail)
  go_wp2
  go_quiet (fail)
  go_wp2
  go_quiet (fail)
  go_wp2
  go_loopw [6, 7] (fun u i wr => ∃ j : Nat, j ≤ K ∧ i = .int .i64 ((j : Int) + 1) ∧ u = .int .u64 (vl (t.take j) : Int) ∧ Below w.heap.size w wr) (fun _ i _ => K + 1 - (intOf i).toNat)
  case atStart => exact ⟨0, Nat.zero_le _, rfl, rfl, by repeat (first | exact H0.out | refine below_drewN ?_ _)⟩
  case round =>
    obtain ⟨j, hj, rfl, rfl, hB⟩ := hrel
    have HB := Lib.hid hB
    have r0 := (hR.out _ hB).c0
    have r1 := (hR.out _ hB).c1
    have HBY := Lib.hid (hR.out _ hB).byt
    clear hB
    by_cases hlt : j < K
    · have hjl : j < t.length := by omega
      have hsn := Lib.hid (show t.take (j + 1) = t.take j ++ [t[j]] from List.take_succ_eq_append_getElem hjl)
      have hor := vl_step (t.take j) t[j] (by rw [List.length_take]; omega)
      have hc3 := HBY.out.cell (p + 1 + j) t[j] (by rw [HTG.out j hlt]; exact List.getElem?_eq_getElem hjl)
      generalize t[j] = dd at *
      have hjI : (j : Int) + 1 ≤ (K : Int) := by omega
      have s1 : IntKind.i64.wrap ((p : Int) + ((j : Int) + 1)) = (p : Int) + ((j : Int) + 1) := IntWalk.i64_in _ (by omega)
      have s2 : (0 : Int) ≤ (p : Int) + ((j : Int) + 1) := by omega
      have s3 : (p : Int) + ((j : Int) + 1) < (l.length : Int) := by omega
      have s4 : ((p : Int) + ((j : Int) + 1)).toNat = p + 1 + j := by omega
      go_wp2
      go_quiet (fail)
      have HQ := Lib.hid (below_drewN HB.out nq)
      go_wp2
      go_roundw
      case rel => exact ⟨j + 1, by omega, by go_num, by rw [hsn.out], HQ.out⟩
      case measure => simp [intOf]; omega
    · obtain rfl : j = K := by omega
      have hall : t.take j = t := List.take_of_length_le (by omega)
      rw [hall]
      have HTL := Lib.hid htl
      have HKK := Lib.hid hK
      clear hall htl
      have hjI : ¬ (j : Int) + 1 ≤ 247 + (j : Int) - 247 := by omega
      have s1 : IntKind.i64.wrap ((p : Int) + 1 + (247 + (j : Int) - 247)) = (p : Int) + 1 + (247 + (j : Int) - 247) := IntWalk.i64_in _ (by omega)
      by_cases h1 : (vl t : Int) < 248
      · have H9 := Lib.hid (show X = #[.int .i64 0, .int .i64 0, .int .i64 1] by rw [← HX.out, if_pos (.inl (by omega))])
        go_wp2
        go_ret3
        exact ⟨by rw [H9.out]; rfl, HB.out⟩
      · by_cases h2 : 9223372036854775807 < (vl t : Int)
        · have H9 := Lib.hid (show X = #[.int .i64 0, .int .i64 0, .int .i64 1] by rw [← HX.out, if_pos (.inr (by omega))])
          go_wp2
          go_ret3
          exact ⟨by rw [H9.out]; rfl, HB.out⟩
        · have H9 := Lib.hid (show X = #[.int .i64 (vl t), .int .i64 ((p : Int) + 1 + (247 + (j : Int) - 247)), .int .i64 0] by rw [← HX.out, if_neg (by omega), show (p : Int) + 1 + (247 + (j : Int) - 247) = ((p + (1 + j) : Nat) : Int) by omega])
          have s5 : wrap64 (vl t : Int) = (vl t : Int) := IntWalk.wrap64_in _ (by omega)
          have s6 : IntKind.i64.wrap (vl t : Int) = (vl t : Int) := (IntWalk.i64_left _).trans s5
          go_wp2
          go_quiet (fail)
          have HQ := Lib.hid (below_drewN HB.out nq)
          go_wp2
          go_ret3
          exact ⟨by rw [H9.out]; rfl, HQ.out⟩
/-- look. -/
theorem look_any (h : Rr w g A cap b off l p e) (hl : l.length ≤ 1000000) : Calls Try.prog 46 #[.pointer (some ⟨g, 0, none⟩)] w fun r w' => r = .returned (.tuple (lk l p)) ∧ Below w.heap.size w w' := by
  have hp := h.hp
  have hlen : (l.drop p).length = l.length - p := List.length_drop
  unfold lk
  match hd : l.drop p with
  | [] =>
    rw [hd] at hlen
    simp at hlen
    exact look_end h hl (by omega)
  | c :: r =>
    rw [hd] at hlen
    simp only [List.length_cons] at hlen
    have hc : l[p]? = some c := by have := congrArg (·[0]?) hd; simpa using this
    by_cases h1 : c.toNat < 248
    · have := look_one h hl hc (by omega)
      simpa [rt, h1] using this
    · by_cases h2 : r.length < c.toNat - 247
      · have := look_cut h hl hc (by omega) (by have := c.toNat_lt; omega)
        simpa [rt, h1, h2] using this
      · have hr : l.drop (p + 1) = r := by
          have h7 := congrArg (List.drop 1) hd
          rw [List.drop_drop] at h7
          simpa using h7
        have hcl := c.toNat_lt
        obtain ⟨d, t, rfl⟩ : ∃ d t, r = d :: t := by
          cases r with
          | nil => simp at h2; omega
          | cons d t => exact ⟨d, t, rfl⟩
        have hd1 : l[p + 1]? = some d := by have := congrArg (·[0]?) hr; simpa using this
        obtain ⟨K, hK⟩ : ∃ K, c.toNat - 247 = K := ⟨_, rfl⟩
        have hK1 : 1 ≤ K := by omega
        have hhd : ((d :: t).take K).head? = some d := by
          obtain ⟨k, rfl⟩ : ∃ k, K = k + 1 := ⟨K - 1, by omega⟩
          rfl
        rw [rt_cons, if_neg h1, if_neg h2, hK, hhd]
        rcases Bool.eq_false_or_eq_true ((d.toNat : Int) == 0) with h0 | h0
        · have hz : d = 0 := by
            have h1 : (d.toNat : Int) = 0 := by simpa using h0
            exact UInt8.toNat_inj.1 (by simp; omega)
          rw [if_pos (.inl (.inl (by rw [hz])))]
          exact look_zero h hl hc (by omega) (by omega) hd1 h0
        · have hz : ¬ some d = some (0 : UInt8) := fun e => by
            have : d = 0 := by simpa using e
            subst this
            exact absurd h0 (by decide)
          have := look_wide (K := K) (t := (d :: t).take K) h hl hc (by omega) (by omega) (by rw [List.length_cons] at h2; simp only [List.length_cons] at hlen; omega) (by rw [hr]) hd1 h0
          refine this.mono ?_
          rintro r' w' ⟨rfl, hb⟩
          refine ⟨?_, hb⟩
          by_cases h5 : vl ((d :: t).take K) < 248 ∨ 9223372036854775807 < vl ((d :: t).take K)
          · rw [if_pos h5, if_pos (h5.elim (fun h => .inl (.inr h)) .inr)]
            rfl
          · rw [if_neg h5, if_neg (fun h => h.elim (fun h => h.elim hz (fun h => h5 (.inl h))) (fun h => h5 (.inr h)))]
            rfl
end
end Go.Proofs.Ytdoldjfabgcgbaa
