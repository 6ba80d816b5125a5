/- Texts of one proof, joined. -/
import Derived.Test.YtphijnkiiokieaaGreatDoorZaa
import Derived.Test.YtphijnkiiokieaaGreatDoorZab
set_option linter.unusedVariables false
set_option linter.unusedSimpArgs false
set_option maxRecDepth 100000
set_option maxHeartbeats 80000000
namespace Go.Proofs.YtphijnkiiokieaaGreatDoor
open Go.RowKit
def dgs (n : Nat) : List UInt8 := if h : n = 0 then [] else dgs (n / 256) ++ [UInt8.ofNat n]
termination_by n
decreasing_by omega
theorem dgs_zero : dgs 0 = [] := by unfold dgs; simp
theorem dgs_pos {n : Nat} (h : 0 < n) : dgs n = dgs (n / 256) ++ [UInt8.ofNat n] := by
  rw [dgs, dif_neg (by omega)]
def sz (n : Nat) : Nat := (dgs n).length
theorem sz_zero : sz 0 = 0 := by simp [sz, dgs_zero]
theorem sz_pos {n : Nat} (h : 0 < n) : sz n = sz (n / 256) + 1 := by simp [sz, dgs_pos h]
theorem dgs_get : ∀ (n j : Nat), j < sz n → (dgs n)[j]? = some (UInt8.ofNat (n / 256 ^ (sz n - 1 - j))) := by
  intro n
  induction n using Nat.strongRecOn with
  | _ n ih =>
    intro j hj
    rcases Nat.eq_zero_or_pos n with rfl | hp
    · rw [sz_zero] at hj; omega
    · have hs := sz_pos hp
      rw [dgs_pos hp]
      by_cases hlt : j < sz (n / 256)
      · rw [List.getElem?_append_left hlt, ih (n / 256) (by omega) j hlt, hs]
        congr 2
        rw [Nat.div_div_eq_div_mul, show sz (n / 256) + 1 - 1 - j = (sz (n / 256) - 1 - j) + 1 by omega, Nat.pow_succ, Nat.mul_comm]
      · have : j = sz (n / 256) := by omega
        subst this; rw [List.getElem?_append_right (show (dgs (n / 256)).length ≤ sz (n / 256) from Nat.le_refl _), hs]
        simp [sz]
theorem sz_le : ∀ (k n : Nat), n < 256 ^ k → sz n ≤ k := by
  intro k
  induction k with
  | zero => intro n h; have : n = 0 := by simpa using h
            subst this; rw [sz_zero]; omega
  | succ k ih =>
    intro n h
    rcases Nat.eq_zero_or_pos n with rfl | hp
    · rw [sz_zero]; omega
    · rw [sz_pos hp]
      have := ih (n / 256) (by rw [Nat.div_lt_iff_lt_mul (by omega)]; rwa [Nat.pow_succ] at h)
      omega
def hdb (n : Nat) : UInt8 := UInt8.ofNat (247 + sz n)
def enc (n : Nat) : List UInt8 := if n < 248 then [UInt8.ofNat n] else hdb n :: dgs n
theorem size_any (n : Nat) (hn : n < 9223372036854775808) (w : World) :
    Calls Tryz.prog 81 #[.int .i64 (n : Int)] w fun e w' => e = .returned (.int .i64 (sz n)) ∧ w = w' := by
  go_enter Tryz.func81, Tryz.ntmps81
  go_wp2
  go_loop [0, 3] (fun a k => ∃ m j : Nat, j + sz m = sz n ∧ j ≤ 8 ∧ m ≤ n ∧ a = .int .i64 (m : Int) ∧ k = .int .i64 (j : Int)) (fun a _ => (intOf a).toNat)
  case atStart => exact ⟨n, 0, by omega, by omega, Nat.le_refl _, rfl, rfl⟩
  case round =>
    obtain ⟨m, j, hj, hj8, hmn, rfl, rfl⟩ := hrel; have h8 : sz n ≤ 8 := sz_le 8 n (by omega)
    by_cases hp : 0 < m
    · have hs := sz_pos hp
      go_wp2
      all_goals go_round
      case rel => exact ⟨m / 256, j + 1, by omega, by omega, by omega, by go_num, by go_num⟩
      case measure => simp [intOf]; omega
    · have h0 : m = 0 := by omega
      subst h0; rw [sz_zero] at hj
      go_wp2
      go_ret
      exact ⟨by rw [show j = sz n by omega]; rfl, rfl⟩
theorem one_src (c : Int) (h0 : 0 ≤ c) {W : World} {g : Nat} (h : Blk W g 5 #[.int .u8 (c % 256)]) :
    Src Tryz.prog 1 27 (.slice (some ⟨g, 0, none⟩) 1 1) ([UInt8.ofNat c.toNat] : List UInt8).length (([UInt8.ofNat c.toNat] : List UInt8).map bv) W := by
  obtain ⟨C, rfl⟩ := Int.eq_ofNat_of_zero_le h0
  refine Src.ofSlice W Tryz.underlying27 _ 1 1 _ rfl (fun j u hu => ?_) (fun u hu => by
    obtain ⟨x, _, rfl⟩ := List.mem_map.1 hu
    rfl)
  rw [add_plain, Nat.zero_add, h.cell j]; simp only [List.map_cons, List.map_nil, bv_ofNat, Int.toNat_natCast, IntKind.wrap_u8'] at hu
  simpa using hu
theorem one_src2 (c : Int) (h0 : 0 ≤ c) (h1 : c < 256) {W : World} {g : Nat} (h : Blk W g 5 #[.int .u8 c]) :
    Src Tryz.prog 1 27 (.slice (some ⟨g, 0, none⟩) 1 1) ([UInt8.ofNat c.toNat] : List UInt8).length (([UInt8.ofNat c.toNat] : List UInt8).map bv) W :=
  one_src c h0 (by rw [Int.emod_eq_of_lt h0 h1]; exact h)
theorem number_small (n : Nat) (hn : n < 248) {B : Nat} {w : World} {v : Value} {l : List UInt8} (h : Own 5 B w v l) (hB : B ≤ w.heap.size) (hl : l.length ≤ 1000000) :
    Calls Tryz.prog 71 #[v, .int .i64 (n : Int)] w fun e w' => ∃ v', e = .returned v' ∧ Own 5 B w' v' (l ++ [UInt8.ofNat n]) ∧ Below B w w' := by
  have HO := Zh h; have HL := Zh hl; have hc : (n : Int) < 248 := by omega
  clear h hl hn; obtain ⟨i0, hi, hz0, hz1, hz2⟩ := info_parts p_info5
  go_enter Tryz.func71, Tryz.ntmps71
  go_wp2_with (
      at_builtin
      refine p_wpList_own_append (e := 5) (t := 27) (tx := 27) (z := .int .u8 0) (i := i0) (B := B) (v := v) (l := l) _ rfl (.tmp 9) (.tmp 12) rfl Tryz.underlying27 hi hz0 hz1 hz2 rfl rfl (HO.out.below ((Below.refl _ _).alloc (Nat.le_refl _) _)) ?hB1 (.slice (some ⟨w.heap.size, 0, none⟩) 1 1) rfl [UInt8.ofNat n] (one_src2 (n : Int) (by omega) (by omega) (Blk.new _ _ _)) ?h63_1 ?hK1
      case hB1 => (simp <;> omega)
      case h63_1 => (have := HL.out; simp; omega)
      intro v2 w2 h1 h2; have HO2 := Zh h1; have H2 := Zh (((Below.refl B w).alloc hB _).trans h2)
      clear h1 h2)
  go_ret
  exact ⟨v2, rfl, HO2.out, H2.out⟩
theorem hdb_src (n : Nat) (h : sz n ≤ 8) {W : World} {g : Nat} (hb : Blk W g 5 #[.int .u8 (247 + (sz n : Int))]) :
    Src Tryz.prog 1 27 (.slice (some ⟨g, 0, none⟩) 1 1) ([hdb n] : List UInt8).length (([hdb n] : List UInt8).map bv) W :=
  one_src2 (247 + (sz n : Int)) (by omega) (by omega) hb
theorem dgs_take (n j Q : Nat) (h : j + Q + 1 = sz n) : (dgs n).take (j + 1) = (dgs n).take j ++ [UInt8.ofNat ((n : Int) / 2 ^ (8 * Q)).toNat] := by
  have hj : j < (dgs n).length := by show j < sz n; omega
  have hg := dgs_get n j (by omega); rw [List.getElem?_eq_getElem hj] at hg; rw [List.take_succ_eq_append_getElem hj, Option.some.inj hg]
  congr 3
  rw [show sz n - 1 - j = Q by omega]; have : ((n : Int) / 2 ^ (8 * Q)) = ((n / 256 ^ Q : Nat) : Int) := by
    rw [Int.natCast_ediv, Int.natCast_pow, show ((256 : Nat) : Int) = 2 ^ 8 by rfl, ← Int.pow_mul]
  rw [this, Int.toNat_natCast]
theorem number_great (n : Nat) (hn : n < 9223372036854775808) (hn2 : 248 ≤ n) {B : Nat} {w : World} {v : Value} {l : List UInt8} (h : Own 5 B w v l) (hB : B ≤ w.heap.size) (hl : l.length ≤ 1000000) :
    Calls Tryz.prog 71 #[v, .int .i64 (n : Int)] w fun e w' => ∃ v', e = .returned v' ∧ Own 5 B w' v' (l ++ hdb n :: dgs n) ∧ Below B w w' := by
  have HO := Zh h; have HL := Zh hl; have CS := Zh (size_any n hn); have h8 := sz_le 8 n (by omega); have h1 : 1 ≤ sz n := by rw [sz_pos (by omega)]; omega
  have hc : ¬ (n : Int) < 248 := by omega
  have HN := Zh hn; clear h hl hn hn2; obtain ⟨i0, hi, hz0, hz1, hz2⟩ := info_parts p_info5
  go_enter Tryz.func71, Tryz.ntmps71
  go_wp2_with (first
    | (go_at_call 81; refine (CS.out _).mono ?_; rintro _ w9 ⟨rfl, rfl⟩)
    | (at_builtin
       refine p_wpList_own_append (e := 5) (t := 27) (tx := 27) (z := .int .u8 0) (i := i0) (B := B) (v := v) (l := l) _ rfl (.tmp 16) (.tmp 20) rfl Tryz.underlying27 hi hz0 hz1 hz2 rfl rfl (HO.out.below ((Below.refl _ _).alloc (Nat.le_refl _) _)) ?hB1 (.slice (some ⟨w.heap.size, 0, none⟩) 1 1) rfl [hdb n] (hdb_src n (by omega) (Blk.new _ _ _)) ?h63_1 ?hK1
       case hB1 => (simp <;> omega)
       case h63_1 => (have := HL.out; simp; omega)
       intro v2 w2 h1 h2; have HO2 := Zh h1; have H2 := Zh (((Below.refl B w).alloc hB _).trans h2)
       clear h1 h2))
  have hw2 : B ≤ w2.heap.size := Nat.le_trans hB H2.out.size
  go_loopw [0, 6] (fun a i wr => ∃ (j : Nat) (q : Int), (j : Int) + q + 1 = sz n ∧ -1 ≤ q ∧ i = .int .i64 q ∧ Own 5 B wr a (l ++ hdb n :: (dgs n).take j) ∧ Below B w wr) (fun _ i _ => (intOf i + 1).toNat)
  case atStart => exact ⟨0, (sz n : Int) - 1, by omega, by omega, rfl, by simpa using HO2.out, H2.out⟩
  case round =>
    obtain ⟨j, q, hj, hq, rfl, hO, hU⟩ := hrel; have HO3 := Zh hO; have H3 := Zh hU; clear hO hU
    by_cases hq0 : 0 ≤ q
    · obtain ⟨Q, rfl⟩ := Int.eq_ofNat_of_zero_le hq0
      have hlt : ((dgs n).take j).length ≤ 8 := by rw [List.length_take]; show min j (sz n) ≤ 8; omega
      have HLT := Zh hlt; have hp : (0 : Int) ≤ (n : Int) / 2 ^ (8 * Q) := Int.ediv_nonneg (by omega) (Int.pow_nonneg (by omega)); clear hlt
      go_wp2_with (
        at_builtin
        refine p_wpList_own_append (e := 5) (t := 27) (tx := 27) (z := .int .u8 0) (i := i0) (B := B) (v := u0) (l := l ++ hdb n :: (dgs n).take j) _ rfl (.tmp 28) (.tmp 34) rfl Tryz.underlying27 hi hz0 hz1 hz2 rfl rfl (HO3.out.below ((Below.refl _ _).alloc (Nat.le_refl _) _)) ?hB2 (.slice (some ⟨wr.heap.size, 0, none⟩) 1 1) rfl [UInt8.ofNat ((n : Int) / 2 ^ (8 * Q)).toNat] (one_src ((n : Int) / 2 ^ (8 * Q)) hp (Blk.new _ _ _)) ?h63_2 ?hK2
        case hB2 => (have := H3.out.size; simp; omega)
        case h63_2 => (have := HL.out; have := HLT.out; simp; omega)
        intro v3 w3 h1 h2; have HO4 := Zh h1; have H4 := Zh ((H3.out.alloc (Nat.le_trans hB H3.out.size) _).trans h2)
        clear h1 h2)
      go_roundw
      case rel => exact ⟨j + 1, (Q : Int) - 1, by omega, by omega, by go_num, by rw [dgs_take n j Q (by omega)]; simpa using HO4.out, H4.out⟩
      case measure => simp [intOf]
    · have hq1 : q = -1 := by omega
      subst hq1
      go_wp2
      go_ret
      exact ⟨u0, rfl, by have := HO3.out; rwa [List.take_of_length_le (show (dgs n).length ≤ j by show sz n ≤ j; omega)] at this, H3.out⟩
theorem number_any (n : Nat) (hn : n < 9223372036854775808) {B : Nat} {w : World} {v : Value} {l : List UInt8} (h : Own 5 B w v l) (hB : B ≤ w.heap.size) (hl : l.length ≤ 1000000) :
    Calls Tryz.prog 71 #[v, .int .i64 (n : Int)] w fun e w' => ∃ v', e = .returned v' ∧ Own 5 B w' v' (l ++ enc n) ∧ Below B w w' := by
  unfold enc
  by_cases h2 : n < 248
  · rw [if_pos h2]; exact number_small n h2 h hB hl
  · rw [if_neg h2]; exact number_great n hn (by omega) h hB hl
def encz (n : Int) : List UInt8 := if n < 0 then [] else enc n.toNat
theorem enc_length (n : Nat) (hn : n < 9223372036854775808) : (enc n).length ≤ 9 := by
  unfold enc
  split
  · simp
  · have := sz_le 8 n (by omega)
    show (dgs n).length + 1 ≤ 9
    show sz n + 1 ≤ 9
    omega
theorem num_any {A : Option Addr} {len cap b off : Nat} {w : World} {l : List UInt8} (h : Byt w A len cap b off l) (hm : len ≤ 1000000) (n : Int) (hn : n < 9223372036854775808) :
    Calls Tryz.prog 53 #[.slice A len cap, .int .i64 n] w fun e w' => ∃ v, e = .returned v ∧ Own 5 w.heap.size w' v (l ++ encz n) ∧ Below w.heap.size w w' := by
  have CL := Zh (clone_any h (by omega)); have hlen := h.hlen; have HL := Zh (show l.length ≤ 1000000 by omega); clear h hlen
  by_cases hz : n < 0
  · have e : encz n = [] := by simp [encz, hz]
    rw [e]
    go_enter Tryz.func53, Tryz.ntmps53
    go_wp2_with (go_at_call 72; refine CL.out.mono ?_; rintro _ w2 ⟨v, rfl, h1, h2⟩; have H1 := Zh h1; have H2 := Zh h2; clear h1 h2)
    go_ret
    exact ⟨v, rfl, by simpa using H1.out, H2.out⟩
  · obtain ⟨N, rfl⟩ := Int.eq_ofNat_of_zero_le (show 0 ≤ n by omega)
    have e : encz (N : Int) = enc N := by unfold encz; rw [if_neg hz, Int.toNat_natCast]
    rw [e]; have hN : N < 9223372036854775808 := by omega
    have HN := Zh hN; clear hn hN
    go_enter Tryz.func53, Tryz.ntmps53
    go_wp2_with (first
      | (go_at_call 72; refine CL.out.mono ?_; rintro _ w2 ⟨v, rfl, h1, h2⟩; have H1 := Zh h1; have H2 := Zh h2; clear h1 h2)
      | (go_at_call 71; refine (number_any N HN.out H1.out H2.out.size HL.out).mono ?_; rintro _ w3 ⟨v3, rfl, h1, h2⟩; have H3 := Zh h1; have H4 := Zh (H2.out.trans h2); clear h1 h2))
    go_ret
    exact ⟨v3, rfl, H3.out, H4.out⟩
def enct (s : ByteArray) : List UInt8 := enc s.size ++ s.data.toList
theorem p_text_any {A : Option Addr} {len cap b off : Nat} {w : World} {l : List UInt8} (h : Byt w A len cap b off l) (hm : len ≤ 900000) (s : ByteArray) (hs : s.size ≤ 1000000) :
    Calls Tryz.prog 52 #[.slice A len cap, .string s] w fun e w' => ∃ v, e = .returned v ∧ Own 5 w.heap.size w' v (l ++ enct s) ∧ Below w.heap.size w w' := by
  have CL := Zh (clone_any h (by omega)); have hlen := h.hlen; have HL := Zh (show l.length ≤ 900000 by omega); have HE := Zh (enc_length s.size (by omega)); clear h hlen; obtain ⟨i0, hi, hz0, hz1, hz2⟩ := info_parts p_info5
  go_enter Tryz.func52, Tryz.ntmps52
  go_wp2_with (first
    | (go_at_call 72; refine CL.out.mono ?_; rintro _ w2 ⟨v, rfl, h1, h2⟩; have H1 := Zh h1; have H2 := Zh h2; clear h1 h2)
    | (go_at_call 71; refine (number_any s.size (by omega) H1.out H2.out.size (by have := HL.out; omega)).mono ?_; rintro _ w3 ⟨v3, rfl, h1, h2⟩; have H3 := Zh h1; have H4 := Zh (H2.out.trans h2); clear h1 h2)
    | (at_builtin
       refine p_wpList_own_append (e := 5) (t := 27) (tx := 9) (z := .int .u8 0) (i := i0) (B := w.heap.size) (v := v3) (l := l ++ enc s.size) _ rfl (.tmp 9) (.tmp 10) rfl Tryz.underlying27 hi hz0 hz1 hz2 rfl rfl H3.out H4.out.size (.string s) rfl s.data.toList (str_src s _) ?h63 ?hK
       case h63 => (have h7 := HL.out; have h8 := HE.out; have h9 : s.data.size = s.size := rfl; simp only [List.length_append, Array.length_toList]; omega)
       intro v5 w5 h1 h2; have H5 := Zh h1; have H6 := Zh (H4.out.trans h2)
       clear h1 h2))
  go_ret
  exact ⟨v5, rfl, by have := H5.out; rwa [List.append_assoc] at this, H6.out⟩
theorem setCells_other (g j : Nat) (h : g ≠ j) : ∀ (vs : List Value) (o : Nat) (w : World), (w.setCells g o vs).heap[j]? = w.heap[j]? := by
 intro vs
 induction vs with
 | nil => intro o w; rfl
 | cons v vs ih => intro o w; exact (ih (o + 1) _).trans (Below.heap_setCell w ⟨g, o, none⟩ v j (fun e => h e.symm))
theorem own_append2 {P : Program} {e t tx ty : TypeId} {i : TypeInfo} {z : Value} (ht : P.underlying t = some (.slice e)) (hi : P.info? e = some i) (hz : i.zero = some z) (hsz : i.size = 1) (hby : i.bytes = 1) (hzs : z.cells.size = 1)
  {B : Nat} {w0 w : World} {v : Value} {l : List UInt8} (h0 : Own e B w0 v l) (hb : Below w0.heap.size w0 w) (hB : B ≤ w.heap.size) (x : Value) (more : List UInt8) (hs : Src P 1 tx x more.length (more.map bv) w) (h63 : l.length + more.length ≤ 140737488355328) :
  ∃ v' w', (Builtin.append_ #[t, tx] ty #[v, x]).run P w = .ok v' w' ∧ Own e B w' v' (l ++ more) ∧ Below B w w' ∧ ∀ j, w0.heap.size ≤ j → j < w.heap.size → w'.heap[j]? = w.heap[j]? := by
 obtain ⟨ao, cap, rfl, hle, hmax, hrow⟩ := h0; rw [← hsz] at hs; have hrow : cap = 0 ∨ ∃ g cur, ao = some ⟨g, 0, none⟩ ∧ B ≤ g ∧ w.heap[g]? = some (.cells cur e (0, 0)) ∧ cur.size = cap ∧ cur.toList.take l.length = l.map bv ∧ g < w0.heap.size := hrow.imp id fun ⟨g, cur, h1, hg, hh, h2, h3⟩ => by
  have hlt : g < w0.heap.size := by
   rcases Nat.lt_or_ge g w0.heap.size with hlt | hge
   ·
    exact hlt
   ·
    rw [Array.getElem?_eq_none hge] at hh; cases hh
  exact ⟨g, cur, h1, hg, by rw [hb.block g hlt]; exact hh, h2, h3, hlt⟩
 by_cases hr : l.length + more.length ≤ cap
 ·
  rcases hrow with h0 | ⟨g, cur, rfl, hg, hh, hcs, htk, hlt⟩
  ·
   subst h0; have hl0 : l = [] := List.length_eq_zero_iff.1 (by omega); have hm0 : more = [] := List.length_eq_zero_iff.1 (by omega)
   subst hl0; subst hm0
   refine ⟨.slice ao 0 0, w, run_append_nothing w t tx ty e i ht hi ao 0 0 (Nat.le_refl _) x hs, ⟨ao, 0, rfl, Nat.le_refl _, hmax, .inl rfl⟩, Below.refl _ _, fun _ _ _ => rfl⟩
  ·
   have hrun := run_append_room_src (P := P) w t tx ty e i ht hi g 0 l.length cap x more.length (more.map bv) hs hr (fun j hj => by
    rw [cell_of_row w g _ cur e (0, 0) hh]; simp at hj; rw [hsz]; simp; omega) (fun j hj => by simp [World.frozen?, hh])
   obtain ⟨cur', h2, h3, h4⟩ := setCells_row g e (0, 0) (more.map bv) (0 + l.length * i.size) cur w hh (by rw [hsz]; simp; omega); refine ⟨_, _, hrun, ⟨some ⟨g, 0, none⟩, cap, by rw [List.length_append], by rw [List.length_append]; exact hr, hmax, .inr ⟨g, cur', rfl, hg, h2, h3.trans hcs, ?_⟩⟩, setCells_below B g hg _ _ _ _ (Below.refl _ _), fun j h1 _ => setCells_other g j (by omega) _ _ _⟩; rw [hsz] at h4; simp only [Nat.zero_add, Nat.mul_one, List.length_map] at h4; rw [List.length_append, h4, htk, List.map_append]
 ·
  have hold : (Builtin.firstCells i.size l.length (.slice ao l.length cap)).run P w.drew = .ok (l.map bv).toArray w.drew := by
   rcases hrow with h0 | ⟨g, cur, rfl, hg, hh, hcs, htk, hlt⟩
   ·
    have hl0 : l = [] := List.length_eq_zero_iff.1 (by omega); subst hl0
    cases ao with
    | none => exact run_firstCells_none _ _ _ _ _
    | some a => exact run_firstCells_some w.drew i.size 0 a 0 cap [] (by simp) (fun j u hu => by simp at hu)
   ·
    exact run_firstCells_some w.drew i.size l.length ⟨g, 0, none⟩ l.length cap (l.map bv) (by rw [hsz]; simp) (fun j u hu => by
     rw [add_plain, Nat.zero_add]
     show w.cell? _ = _
     rw [cell_of_row w g j cur e (0, 0) hh]; rw [← htk, List.getElem?_take] at hu
     split at hu
     ·
      simpa using hu
     ·
      cases hu)
  have hrun := run_append_grow_src (P := P) w t tx ty e i z ht hi hz ao l.length cap (l.map bv) hold x more.length (more.map bv) hs (by omega) (by omega) (by rw [hby]; exact growslice_fits (by omega) (by omega)); refine ⟨_, _, hrun, ⟨_, _, by rw [List.length_append], ?_, ?_, .inr ⟨w.heap.size, _, rfl, hB, heap_alloc_new _ _, ?_, ?_⟩⟩, ((Below.refl _ _).drew).alloc hB _, fun j _ h2 => Below.heap_alloc w.drew _ j h2⟩
  ·
   rw [List.length_append]; exact grownCap_ge _ _ _ _
  ·
   exact grownCap_le_maxLen _ _ _ _ (by unfold maxLen; omega)
  ·
   have := grownCap_ge w (l.length + more.length) cap e
   simp [Builtin.zeroCells, hzs]
   omega
  ·
   rw [List.length_append, ← List.map_append, Array.toList_append, List.take_append_of_le_length (by simp)]
   exact List.take_of_length_le (by simp)
theorem wpList_own_append2 {P : Program} {e t tx : TypeId} (w0 w : World) {ops : Array Oper} {rest : List Oper} {o : Oper} {a : Act} {Q : Exit → Act → World → Prop} (hgd : o.guard = none) (s x : Operand)
  (ho : o.op = .call { callee := .builtin .append, args := #[s, x], argTypes := #[t, tx] }) {i : TypeInfo} {z : Value} (ht : P.underlying t = some (.slice e)) (hi : P.info? e = some i) (hz : i.zero = some z) (hsz : i.size = 1) (hby : i.bytes = 1) (hzs : z.cells.size = 1)
  {B : Nat} {v : Value} {l : List UInt8} (hv : a.eval s = v) (h0 : Own e B w0 v l) (hb : Below w0.heap.size w0 w) (hB : B ≤ w.heap.size) (xv : Value) (hx : a.eval x = xv) (more : List UInt8) (hs : Src P 1 tx xv more.length (more.map bv) w) (h63 : l.length + more.length ≤ 140737488355328)
  (hK : ∀ v' w', Own e B w' v' (l ++ more) → Below B w w' → (∀ j, w0.heap.size ≤ j → j < w.heap.size → w'.heap[j]? = w.heap[j]?) → wpList P ops Q rest (a.put o.dst v') w') : wpList P ops Q (o :: rest) a w := by
 refine wpList_plain hgd fun K hK' => ?_
 obtain ⟨v', w', hrun, r1, r2, r3⟩ := own_append2 (P := P) (ty := o.type) ht hi hz hsz hby hzs h0 hb hB xv more hs h63
 unfold Oper.wp
 simp [execOp, ho, resolve, invoke, builtin, hv, hx, hrun, Result.andThen]
 exact hK' _ _ (hK v' w' r1 r2 r3)
theorem Own.far {e : TypeId} {B : Nat} {w w' : World} {v : Value} {l : List UInt8} (h : Own e B w v l) (hb : ∀ j, B ≤ j → j < w.heap.size → w'.heap[j]? = w.heap[j]?) : Own e B w' v l := by
 obtain ⟨ao, cap, rfl, hle, hmax, hrow⟩ := h; refine ⟨ao, cap, rfl, hle, hmax, hrow.imp id fun ⟨g, cur, h1, hg, hh, h2⟩ => ⟨g, cur, h1, hg, ?_, h2⟩⟩; have hlt : g < w.heap.size := by
  rcases Nat.lt_or_ge g w.heap.size with hlt | hge
  ·
   exact hlt
  ·
   rw [Array.getElem?_eq_none hge] at hh; cases hh
 rw [hb g hg hlt]
 exact hh
theorem one_own (c : Int) (h0 : 0 ≤ c) (W : World) (B : Nat) (hB : B ≤ W.heap.size) : Own 5 B (W.alloc (.cells #[.int .u8 (c % 256)] 5)) (.slice (some ⟨W.heap.size, 0, none⟩) 1 1) [UInt8.ofNat c.toNat] := by
  obtain ⟨C, rfl⟩ := Int.eq_ofNat_of_zero_le h0; refine ⟨_, 1, rfl, Nat.le_refl _, by decide, .inr ⟨W.heap.size, _, rfl, hB, heap_alloc_new _ _, rfl, ?_⟩⟩; simp only [List.map_cons, List.map_nil, bv_ofNat, IntKind.wrap_u8', Int.toNat_natCast]
  rfl
set_option maxRecDepth 20000
theorem rnum_great {A : Option Addr} {len cap b off : Nat} {w : World} {l : List UInt8} (h : Byt w A len cap b off l) (hm : len ≤ 900000) (n : Nat) (hn : n < 9223372036854775808) (hn2 : 248 ≤ n) :
    Calls Tryz.prog 28 #[.slice A len cap, .int .i64 (n : Int)] w fun e w' => ∃ v, e = .returned v ∧ Own 5 w.heap.size w' v (l ++ hdb n :: dgs n) ∧ Below w.heap.size w w' := by
  have hlen := h.hlen; have HL := Zh (show l.length ≤ 900000 by omega); have h8 := sz_le 8 n (by omega); have h1 : 1 ≤ sz n := by rw [sz_pos (by omega)]; omega
  have hc : ¬ (n : Int) < 248 := by omega
  have HN := Zh hn; have HB := Zh h; clear h hlen hn hn2; obtain ⟨i0, hi, hz0, hz1, hz2⟩ := info_parts p_info5
  go_enter Tryz.func28, Tryz.ntmps28
  go_wp2_with (
    at_builtin
    refine p_wpList_own_append (e := 5) (t := 27) (tx := 27) (z := .int .u8 0) (i := i0) (B := w.heap.size) (v := .slice (some ⟨w.heap.size, 0, none⟩) 0 0) (l := []) _ rfl (.tmp 7) (.tmp 8) rfl Tryz.underlying27 hi hz0 hz1 hz2 rfl rfl (Own.nil 5 _ _ _) ?hB1 (.slice A len cap) rfl l ((HB.out.below ((Below.refl w.heap.size w).alloc (Nat.le_refl _) _)).srcs) ?h63_1 ?hK1
    case hB1 => simp
    case h63_1 => (have := HL.out; simp; omega)
    intro v2 w2 h1 h2; have HO2 := Zh (show Own 5 w.heap.size w2 v2 l from h1); have H2 := Zh (((Below.refl w.heap.size w).alloc (Nat.le_refl _) _).trans h2)
    clear h1 h2)
  go_loopw [1, 6] (fun a u wr => ∃ (m : Nat) (ds : List UInt8) (A : Option Addr) (L cap : Nat), dgs n = dgs m ++ ds ∧ m ≤ n ∧ a = .int .i64 (m : Int) ∧ u = .slice A L cap ∧ L + sz m = sz n ∧ ds.length = L ∧ Own 5 w2.heap.size wr u ds ∧ Below w2.heap.size w2 wr) (fun a _ _ => (intOf a).toNat)
  case atStart => exact ⟨n, [], none, 0, 0, by simp, Nat.le_refl _, rfl, rfl, by omega, rfl, Own.nil _ _ _ _, Below.refl _ _⟩
  case round =>
    obtain ⟨m, ds, A3, L3, cap3, hd, hmn, rfl, rfl, hL3, hlen3, hO, hU⟩ := hrel; have HO3 := Zh hO; have H3 := Zh hU; have HD := Zh hd; clear hO hU hd; have HL3 := Zh hlen3; clear hlen3
    by_cases hm0 : 0 < m
    · have hs := sz_pos hm0
      have n0 : bits .and .i64 (m : Int) 255 = (m : Int) % 256 := i64_low _ 8 (by omega); obtain ⟨b3, hb3⟩ := HO3.out.bytS; have HB3 := Zh hb3; clear hb3
      go_wp2_with (
        at_builtin
        refine p_wpList_own_append (e := 5) (t := 27) (tx := 27) (z := .int .u8 0) (i := i0) (B := w2.heap.size) (v := .slice (some ⟨wr.heap.size, 0, none⟩) 1 1) (l := [UInt8.ofNat (m : Int).toNat]) _ rfl (.tmp 27) (.tmp 28) rfl Tryz.underlying27 hi hz0 hz1 hz2 rfl rfl (one_own (m : Int) (by omega) _ _ H3.out.size) ?hB2 (.slice A3 L3 cap3) rfl ds ((HB3.out.below ((Below.refl _ _).alloc (Nat.le_refl _) _)).srcs) ?h63_2 ?hK2
        case hB2 => (have := H3.out.size; simp; omega)
        case h63_2 => (have := HL3.out; simp; omega)
        intro v4 w4 h1 h2; have HO4 := Zh h1; have H4 := Zh ((H3.out.alloc H3.out.size _).trans h2)
        clear h1 h2)
      go_roundw
      case rel =>
        obtain ⟨A5, L5, cap5, b5, rfl, hL5, _, _, _⟩ := HO4.out.bytL; have h9 := HL3.out; simp only [List.length_append, List.length_cons, List.length_nil] at hL5
        exact ⟨m / 256, UInt8.ofNat m :: ds, A5, L5, cap5, by rw [HD.out, dgs_pos hm0]; simp, by omega, by go_num, rfl, by omega, by simp; omega, by simpa using HO4.out, H4.out⟩
      case measure => simp [intOf]; omega
    · have hz : m = 0 := by omega
      subst hz; rw [sz_zero] at hL3; have hds : dgs n = ds := by have := HD.out; rwa [dgs_zero, List.nil_append] at this
      have HDS := Zh hds; clear hds HD; have e3 : L3 = sz n := by omega
      subst e3; have hww : w.heap.size ≤ wr.heap.size := Nat.le_trans H2.out.size H3.out.size; have H2w := Zh (H2.out.trans (H3.out.mono H2.out.size))
      go_wp2_with (first
        | (at_builtin
           refine wpList_own_append2 (e := 5) (t := 27) (tx := 27) (z := .int .u8 0) (i := i0) (B := w.heap.size) (v := v2) (l := l) w2 _ rfl (.tmp 30) (.tmp 35) rfl Tryz.underlying27 hi hz0 hz1 hz2 rfl rfl HO2.out (H3.out.alloc H3.out.size _) ?hB3 (.slice (some ⟨wr.heap.size, 0, none⟩) 1 1) rfl [hdb n] (hdb_src n (by omega) (Blk.new _ _ _)) ?h63_3 ?hK3
           case hB3 => (simp; omega)
           case h63_3 => (have := HL.out; simp; omega)
           intro v5 w5 h1 h2 h3; have HO5 := Zh h1; have H5 := Zh ((H2w.out.alloc hww _).trans h2); obtain ⟨b5, hb5⟩ := ((HO3.out.below ((Below.refl _ _).alloc (Nat.le_refl _) _)).far h3).bytS; have HB5 := Zh hb5
           clear h1 h2 h3 hb5)
        | (at_builtin
           refine p_wpList_own_append (e := 5) (t := 27) (tx := 27) (z := .int .u8 0) (i := i0) (B := w.heap.size) (v := v5) (l := l ++ [hdb n]) _ rfl (.tmp 37) (.tmp 38) rfl Tryz.underlying27 hi hz0 hz1 hz2 rfl rfl HO5.out H5.out.size (.slice A3 (sz n) cap3) rfl ds HB5.out.srcs ?h63_4 ?hK4
           case h63_4 => (have := HL.out; have := HL3.out; simp; omega)
           intro v6 w6 h1 h2; have HO6 := Zh h1; have H6 := Zh (H5.out.trans h2)
           clear h1 h2))
      go_ret
      exact ⟨v6, rfl, by have := HO6.out; rw [HDS.out]; simpa using this, H6.out⟩
theorem rnum_small {A : Option Addr} {len cap b off : Nat} {w : World} {l : List UInt8} (h : Byt w A len cap b off l) (hm : len ≤ 900000) (n : Nat) (hn : n < 248) :
    Calls Tryz.prog 28 #[.slice A len cap, .int .i64 (n : Int)] w fun e w' => ∃ v, e = .returned v ∧ Own 5 w.heap.size w' v (l ++ [UInt8.ofNat n]) ∧ Below w.heap.size w w' := by
  have hlen := h.hlen; have HL := Zh (show l.length ≤ 900000 by omega); have hc : (n : Int) < 248 := by omega
  have HB := Zh h; clear h hlen hn; obtain ⟨i0, hi, hz0, hz1, hz2⟩ := info_parts p_info5
  go_enter Tryz.func28, Tryz.ntmps28
  go_wp2_with (first
    | (at_builtin
       refine p_wpList_own_append (e := 5) (t := 27) (tx := 27) (z := .int .u8 0) (i := i0) (B := w.heap.size) (v := .slice (some ⟨w.heap.size, 0, none⟩) 0 0) (l := []) _ rfl (.tmp 7) (.tmp 8) rfl Tryz.underlying27 hi hz0 hz1 hz2 rfl rfl (Own.nil 5 _ _ _) ?hB1 (.slice A len cap) rfl l ((HB.out.below ((Below.refl w.heap.size w).alloc (Nat.le_refl _) _)).srcs) ?h63_1 ?hK1
       case hB1 => simp
       case h63_1 => (have := HL.out; simp; omega)
       intro v2 w2 h1 h2; have HO2 := Zh (show Own 5 w.heap.size w2 v2 l from h1); have H2 := Zh (((Below.refl w.heap.size w).alloc (Nat.le_refl _) _).trans h2)
       clear h1 h2)
    | (at_builtin
       refine p_wpList_own_append (e := 5) (t := 27) (tx := 27) (z := .int .u8 0) (i := i0) (B := w.heap.size) (v := v2) (l := l) _ rfl (.tmp 15) (.tmp 18) rfl Tryz.underlying27 hi hz0 hz1 hz2 rfl rfl (HO2.out.below ((Below.refl _ _).alloc (Nat.le_refl _) _)) ?hB2 (.slice (some ⟨w2.heap.size, 0, none⟩) 1 1) rfl [UInt8.ofNat n] (one_src2 (n : Int) (by omega) (by omega) (Blk.new _ _ _)) ?h63_2 ?hK2
       case hB2 => (have := H2.out.size; simp; omega)
       case h63_2 => (have := HL.out; simp; omega)
       intro v3 w3 h1 h2; have HO3 := Zh h1; have H3 := Zh ((H2.out.alloc H2.out.size _).trans h2)
       clear h1 h2))
  go_ret
  exact ⟨v3, rfl, HO3.out, H3.out⟩
theorem rnum_neg {A : Option Addr} {len cap b off : Nat} {w : World} {l : List UInt8} (h : Byt w A len cap b off l) (hm : len ≤ 900000) (n : Int) (hn : n < 0) :
    Calls Tryz.prog 28 #[.slice A len cap, .int .i64 n] w fun e w' => ∃ v, e = .returned v ∧ Own 5 w.heap.size w' v l ∧ Below w.heap.size w w' := by
  have hlen := h.hlen; have HL := Zh (show l.length ≤ 900000 by omega); have HB := Zh h; clear h hlen; obtain ⟨i0, hi, hz0, hz1, hz2⟩ := info_parts p_info5
  go_enter Tryz.func28, Tryz.ntmps28
  go_wp2_with (
       at_builtin
       refine p_wpList_own_append (e := 5) (t := 27) (tx := 27) (z := .int .u8 0) (i := i0) (B := w.heap.size) (v := .slice (some ⟨w.heap.size, 0, none⟩) 0 0) (l := []) _ rfl (.tmp 7) (.tmp 8) rfl Tryz.underlying27 hi hz0 hz1 hz2 rfl rfl (Own.nil 5 _ _ _) ?hB1 (.slice A len cap) rfl l ((HB.out.below ((Below.refl w.heap.size w).alloc (Nat.le_refl _) _)).srcs) ?h63_1 ?hK1
       case hB1 => simp
       case h63_1 => (have := HL.out; simp; omega)
       intro v2 w2 h1 h2; have HO2 := Zh (show Own 5 w.heap.size w2 v2 l from h1); have H2 := Zh (((Below.refl w.heap.size w).alloc (Nat.le_refl _) _).trans h2)
       clear h1 h2)
  go_ret
  exact ⟨v2, rfl, HO2.out, H2.out⟩
theorem rnum_any {A : Option Addr} {len cap b off : Nat} {w : World} {l : List UInt8} (h : Byt w A len cap b off l) (hm : len ≤ 900000) (n : Int) (hn : n < 9223372036854775808) :
    Calls Tryz.prog 28 #[.slice A len cap, .int .i64 n] w fun e w' => ∃ v, e = .returned v ∧ Own 5 w.heap.size w' v (l ++ encz n) ∧ Below w.heap.size w w' := by
  unfold encz
  by_cases hz : n < 0
  · rw [if_pos hz, List.append_nil]; exact rnum_neg h hm n hz
  · rw [if_neg hz]
    obtain ⟨N, rfl⟩ := Int.eq_ofNat_of_zero_le (show 0 ≤ n by omega); rw [Int.toNat_natCast]
    unfold enc
    by_cases h2 : N < 248
    · rw [if_pos h2]; exact rnum_small h hm N h2
    · rw [if_neg h2]; exact rnum_great h hm N (by omega) (by omega)
theorem p_rtext_any {A : Option Addr} {len cap b off : Nat} {w : World} {l : List UInt8} (h : Byt w A len cap b off l) (hm : len ≤ 900000) (s : ByteArray) (hs : s.size ≤ 1000000) :
    Calls Tryz.prog 26 #[.slice A len cap, .string s] w fun e w' => ∃ v, e = .returned v ∧ Own 5 w.heap.size w' v (l ++ enct s) ∧ Below w.heap.size w w' := by
  have CN := Zh (rnum_any h hm (s.size : Int) (by omega)); have hlen := h.hlen; have HL := Zh (show l.length ≤ 900000 by omega); have HE := Zh (enc_length s.size (by omega)); have HZ := Zh (show encz (s.size : Int) = enc s.size by unfold encz; rw [if_neg (by omega), Int.toNat_natCast]); clear h hlen; obtain ⟨i0, hi, hz0, hz1, hz2⟩ := info_parts p_info5
  go_enter Tryz.func26, Tryz.ntmps26
  go_wp2_with (first
    | (go_at_call 28; refine CN.out.mono ?_; rintro _ w3 ⟨v3, rfl, h1, h2⟩; rw [HZ.out] at h1; have H3 := Zh h1; have H4 := Zh h2; clear h1 h2)
    | (at_builtin
       refine p_wpList_own_append (e := 5) (t := 27) (tx := 9) (z := .int .u8 0) (i := i0) (B := w.heap.size) (v := v3) (l := l ++ enc s.size) _ rfl (.tmp 8) (.tmp 9) rfl Tryz.underlying27 hi hz0 hz1 hz2 rfl rfl H3.out H4.out.size (.string s) rfl s.data.toList (str_src s _) ?h63 ?hK
       case h63 => (have h7 := HL.out; have h8 := HE.out; have h9 : s.data.size = s.size := rfl; simp only [List.length_append, Array.length_toList]; omega)
       intro v5 w5 h1 h2; have H5 := Zh h1; have H6 := Zh (H4.out.trans h2)
       clear h1 h2))
  go_ret
  exact ⟨v5, rfl, by have := H5.out; rwa [List.append_assoc] at this, H6.out⟩
end Go.Proofs.YtphijnkiiokieaaGreatDoor
