/- Numbers and texts, put one behind the other: what is read where. -/
import Derived.Test.YtcaimaeikedhoaaPts
namespace Go.Proofs.Ytcaimaeikedhoaa
open Go.RowKit
set_option linter.unusedVariables false
structure Ints (w : World) (A : Option Addr) (len b off : Nat) (xs : List Int) : Prop where
  hlen : xs.length = len
  addr : 0 < len → A = some ⟨b, off, none⟩ ∧ b < w.heap.size
  rng : ∀ x ∈ xs, x < 9223372036854775808
  cell : ∀ j x, xs[j]? = some x → w.cell? ⟨b, off + j, none⟩ = some (.int .i64 x)
theorem ints_open {w : World} {A : Option Addr} {len cap : Nat} (S : Sh.ok w (Sh.slice 1 (Sh.int .i64)) [.slice A len cap]) : ∃ b off xs, Ints w A len b off xs := by
  obtain ⟨b, off, hle, hmax, ha, hc⟩ := slice_at S (by omega)
  have H : ∀ i, i < len → ∃ x : Int, x < 9223372036854775808 ∧ w.cell? ⟨b, off + i, none⟩ = some (.int .i64 x) := by
    intro i hi
    obtain ⟨cs, hl, hok, hcell⟩ := hc i hi
    simp only [Sh.ok] at hok
    obtain ⟨x, rfl, wf⟩ := hok
    have hx : x ≤ 9223372036854775807 := by
      simp [Lit.wf, IntKind.min, IntKind.max, IntKind.signed, IntKind.bits] at wf
      exact wf.2
    have := hcell 0 (by omega)
    simp at this
    exact ⟨x, by omega, this⟩
  refine ⟨b, off, List.ofFn (fun i : Fin len => Classical.choose (H i.1 i.2)), by simp, ha, fun x hx => ?_, fun j u hu => ?_⟩
  · obtain ⟨i, rfl⟩ := (List.mem_ofFn).1 hx
    exact (Classical.choose_spec (H i.1 i.2)).1
  · have hj : j < len := by have := (List.getElem?_eq_some_iff.1 hu).1; simpa using this
    rw [List.getElem?_eq_getElem (by simpa using hj)] at hu
    simp only [List.getElem_ofFn, Option.some.injEq] at hu
    rw [← hu]
    exact (Classical.choose_spec (H j hj)).2
structure Strs (w : World) (A : Option Addr) (len b off : Nat) (ts : List ByteArray) : Prop where
  hlen : ts.length = len
  addr : 0 < len → A = some ⟨b, off, none⟩ ∧ b < w.heap.size
  rng : ∀ t ∈ ts, t.size ≤ maxLen
  cell : ∀ j t, ts[j]? = some t → w.cell? ⟨b, off + j, none⟩ = some (.string t)
theorem strs_open {w : World} {A : Option Addr} {len cap : Nat} (S : Sh.ok w (Sh.slice 1 Sh.str) [.slice A len cap]) : ∃ b off ts, Strs w A len b off ts := by
  obtain ⟨b, off, hle, hmax, ha, hc⟩ := slice_at S (by omega)
  have H : ∀ i, i < len → ∃ t : ByteArray, t.size ≤ maxLen ∧ w.cell? ⟨b, off + i, none⟩ = some (.string t) := by
    intro i hi
    obtain ⟨cs, hl, hok, hcell⟩ := hc i hi
    simp only [Sh.ok] at hok
    obtain ⟨t, rfl, ht⟩ := hok
    have := hcell 0 (by omega)
    simp at this
    exact ⟨t, ht, this⟩
  refine ⟨b, off, List.ofFn (fun i : Fin len => Classical.choose (H i.1 i.2)), by simp, ha, fun x hx => ?_, fun j u hu => ?_⟩
  · obtain ⟨i, rfl⟩ := (List.mem_ofFn).1 hx
    exact (Classical.choose_spec (H i.1 i.2)).1
  · have hj : j < len := by have := (List.getElem?_eq_some_iff.1 hu).1; simpa using this
    rw [List.getElem?_eq_getElem (by simpa using hj)] at hu
    simp only [List.getElem_ofFn, Option.some.injEq] at hu
    rw [← hu]
    exact (Classical.choose_spec (H j hj)).2
theorem Ints.below {w w' : World} {A : Option Addr} {len b off : Nat} {xs : List Int} (h : Ints w A len b off xs) (hb : Below w.heap.size w w') : Ints w' A len b off xs :=
  ⟨h.hlen, fun hz => ⟨(h.addr hz).1, Nat.lt_of_lt_of_le (h.addr hz).2 hb.size⟩, h.rng, fun j u hu => by
    have hl : 0 < len := by rw [← h.hlen]; have := (List.getElem?_eq_some_iff.1 hu).1; omega
    exact (World.cell?_of_block (hb.block b (h.addr hl).2)).trans (h.cell j u hu)⟩
theorem Strs.below {w w' : World} {A : Option Addr} {len b off : Nat} {ts : List ByteArray} (h : Strs w A len b off ts) (hb : Below w.heap.size w w') : Strs w' A len b off ts :=
  ⟨h.hlen, fun hz => ⟨(h.addr hz).1, Nat.lt_of_lt_of_le (h.addr hz).2 hb.size⟩, h.rng, fun j u hu => by
    have hl : 0 < len := by rw [← h.hlen]; have := (List.getElem?_eq_some_iff.1 hu).1; omega
    exact (World.cell?_of_block (hb.block b (h.addr hl).2)).trans (h.cell j u hu)⟩
def ezs (xs : List Int) : List UInt8 := xs.flatMap encz
def ets (ts : List ByteArray) : List UInt8 := ts.flatMap enct
theorem ezs_snoc {xs : List Int} {k : Nat} {x : Int} (h : xs[k]? = some x) : ezs (xs.take (k + 1)) = ezs (xs.take k) ++ encz x := by
  obtain ⟨hk, rfl⟩ := List.getElem?_eq_some_iff.1 h
  rw [List.take_succ_eq_append_getElem hk]
  unfold ezs
  rw [List.flatMap_append, List.flatMap_singleton]
theorem ets_snoc {ts : List ByteArray} {k : Nat} {t : ByteArray} (h : ts[k]? = some t) : ets (ts.take (k + 1)) = ets (ts.take k) ++ enct t := by
  obtain ⟨hk, rfl⟩ := List.getElem?_eq_some_iff.1 h
  rw [List.take_succ_eq_append_getElem hk]
  unfold ets
  rw [List.flatMap_append, List.flatMap_singleton]
theorem encz_length {x : Int} (h : x < 9223372036854775808) : (encz x).length ≤ 9 := by
  unfold encz
  split
  · simp
  · exact enc_length _ (by omega)
theorem ezs_length {xs : List Int} (h : ∀ x ∈ xs, x < 9223372036854775808) : (ezs xs).length ≤ 9 * xs.length := by
  induction xs with
  | nil => simp [ezs]
  | cons x xs ih =>
    have h1 := encz_length (h x (by simp))
    have h2 := ih (fun y hy => h y (by simp [hy]))
    have e : ezs (x :: xs) = encz x ++ ezs xs := by simp [ezs]
    rw [e, List.length_append, List.length_cons]
    omega
theorem enct_length {t : ByteArray} (h : t.size ≤ 300) : (enct t).length ≤ 309 := by
  have h1 := enc_length t.size (by omega)
  have h2 : t.data.toList.length = t.size := Array.length_toList
  unfold enct
  rw [List.length_append, h2]
  omega
theorem ets_length {ts : List ByteArray} (h : ∀ t ∈ ts, t.size ≤ 300) : (ets ts).length ≤ 309 * ts.length := by
  induction ts with
  | nil => simp [ets]
  | cons x xs ih =>
    have h1 := enct_length (h x (by simp))
    have h2 := ih (fun y hy => h y (by simp [hy]))
    have e : ets (x :: xs) = enct x ++ ets xs := by simp [ets]
    rw [e, List.length_append, List.length_cons]
    omega
theorem ezs_at {xs : List Int} {k : Nat} {x : Int} (h : xs[k]? = some x) (R : List UInt8) : (ezs xs ++ R).drop (ezs (xs.take k)).length = encz x ++ (ezs (xs.drop (k + 1)) ++ R) := by
  obtain ⟨hk, rfl⟩ := List.getElem?_eq_some_iff.1 h
  have e : ezs xs = ezs (xs.take k) ++ (encz xs[k] ++ ezs (xs.drop (k + 1))) := by
    have : ezs xs = ezs (xs.take k ++ xs[k] :: xs.drop (k + 1)) := by simp
    rw [this]
    unfold ezs
    rw [List.flatMap_append, List.flatMap_cons]
  rw [e, List.append_assoc, List.drop_left, List.append_assoc]
theorem ets_at {ts : List ByteArray} {k : Nat} {t : ByteArray} (h : ts[k]? = some t) (X R : List UInt8) : (X ++ (ets ts ++ R)).drop (X.length + (ets (ts.take k)).length) = enct t ++ (ets (ts.drop (k + 1)) ++ R) := by
  obtain ⟨hk, rfl⟩ := List.getElem?_eq_some_iff.1 h
  have e : ets ts = ets (ts.take k) ++ (enct ts[k] ++ ets (ts.drop (k + 1))) := by
    have : ets ts = ets (ts.take k ++ ts[k] :: ts.drop (k + 1)) := by simp
    rw [this]
    unfold ets
    rw [List.flatMap_append, List.flatMap_cons]
  rw [e, ← List.drop_drop, List.drop_left, List.append_assoc, List.drop_left, List.append_assoc]
theorem rt_enct (t : ByteArray) (ht : t.size ≤ 300) (R : List UInt8) : rt (enct t ++ R) = (t.size, (enc t.size).length, 0) := by
  unfold enct
  rw [List.append_assoc]
  exact rt_enc _ (by omega) _
theorem cut_text (t : ByteArray) (ht : t.size ≤ 300) : (rt ((enct t).take ((enct t).length - 1))).2.2 = 14 ∨ (rt ((enct t).take ((enct t).length - 1)) = (t.size, (enc t.size).length, 0) ∧ 0 < t.size) := by
  rcases Nat.eq_zero_or_pos t.size with hz | hp
  · left
    have hd : t.data.toList = [] := by
      have : t.data.toList.length = 0 := by rw [Array.length_toList]; exact hz
      exact List.length_eq_zero_iff.1 this
    have e : enct t = [0] := by unfold enct enc; rw [hz, hd, if_pos (by omega)]; rfl
    rw [e]; rfl
  · right
    refine ⟨?_, hp⟩
    have hl : t.data.toList.length = t.size := Array.length_toList
    have e : (enct t).take ((enct t).length - 1) = enc t.size ++ t.data.toList.take (t.size - 1) := by
      unfold enct
      rw [List.length_append, hl, show (enc t.size).length + t.size - 1 = (enc t.size).length + (t.size - 1) by omega, List.take_length_add_append]
    rw [e]
    exact rt_enc _ (by omega) _
end Go.Proofs.Ytcaimaeikedhoaa
