/- Bytes that came in, bytes that the call owns; what is read of them, cut off, appended. -/
import Derived.Test.YtdoldjfabgcgbaaApp
import Derived.Test.YtdoldjfabgcgbaaSlice
import Derived.Test.YtdoldjfabgcgbaaProg
import Derived.WalkKit
import Derived.WalkSpells
import Derived.KernelRfl
import Derived.OwnWalk
import Derived.BigQuiet
import Derived.RegionTactic
import Derived.Laws.Rows
import Derived.Laws.IdiomStrings
import Derived.Lib.SliceRun
import Derived.Laws.BitsAllLaws
import Derived.Lib.Hide
import Derived.Deep.RegionLaw
import Derived.Lib.SlBytesConst
import Derived.Deep.RegionWith
import Derived.Deep.QuietTactic
import Derived.Deep.RegionHeld
namespace Go.Proofs.Ytdoldjfabgcgbaa
open Go.RowKit
set_option linter.unusedVariables false
theorem i64_or (a b : Int) (h1 : 0 ≤ a) (h2 : a < 9223372036854775808) (h3 : 0 ≤ b) (h4 : b < 9223372036854775808) : bits .or .i64 a b = ((a.toNat ||| b.toNat : Nat) : Int) := by
  obtain ⟨A, rfl⟩ := Int.eq_ofNat_of_zero_le h1
  obtain ⟨B, rfl⟩ := Int.eq_ofNat_of_zero_le h3
  have hx : A ||| B < 2 ^ 63 := Nat.or_lt_two_pow (by omega) (by omega)
  show IntKind.i64.wrap ((BitVec.ofInt 64 (A : Int) ||| BitVec.ofInt 64 (B : Int)).toNat : Int) = _
  rw [BitVec.toNat_or, ofInt_u64 A (by omega), ofInt_u64 B (by omega), IntWalk.i64_in _ (by omega)]
  rfl
theorem i64_and (a b : Int) (h3 : 0 ≤ b) (h4 : b < 9223372036854775808) : bits .and .i64 a b = (((BitVec.ofInt 64 a).toNat &&& b.toNat : Nat) : Int) := by
  obtain ⟨B, rfl⟩ := Int.eq_ofNat_of_zero_le h3
  have hx : (BitVec.ofInt 64 a).toNat &&& B < 2 ^ 63 := Nat.and_lt_two_pow _ (by omega)
  show IntKind.i64.wrap ((BitVec.ofInt 64 a &&& BitVec.ofInt 64 (B : Int)).toNat : Int) = _
  rw [BitVec.toNat_and, ofInt_u64 B (by omega), IntWalk.i64_in _ (by omega)]
  rfl
theorem i64_low (a : Int) (i : Nat) (hi : i < 63) : bits .and .i64 a (2 ^ i - 1) = a % 2 ^ i := by
  have hp : (2 : Int) ^ i ≤ 2 ^ 62 := by exact_mod_cast Nat.pow_le_pow_right (by omega) (show i ≤ 62 by omega)
  have hq : (0 : Int) < 2 ^ i := by exact_mod_cast Nat.two_pow_pos i
  have e : ((2 : Int) ^ i - 1).toNat = 2 ^ i - 1 := by have : ((2 : Int) ^ i) = ((2 ^ i : Nat) : Int) := by push_cast; rfl
                                                       omega
  rw [i64_and a _ (by omega) (by omega), e, Nat.and_two_pow_sub_one_eq_mod, BitVec.toNat_ofInt]
  have h64 : ((2 : Int) ^ i) ∣ 2 ^ 64 := by exact_mod_cast Int.natCast_dvd_natCast.2 (Nat.pow_dvd_pow 2 (show i ≤ 64 by omega))
  rw [Int.natCast_emod, Int.toNat_of_nonneg (Int.emod_nonneg _ (by decide))]
  rw [show (((2 ^ i : Nat) : Int)) = 2 ^ i by exact_mod_cast rfl]
  exact Int.emod_emod_of_dvd _ h64
theorem or_join (i : Nat) (a b : Int) (h0 : 0 ≤ a) (h1 : a < 9223372036854775808) (hm : a.toNat % 2 ^ i = 0) (h2 : 0 ≤ b) (h3 : b < 2 ^ i) (hi : i < 63) : bits .or .i64 a b = a + b := by
  have hp : (2 : Int) ^ i ≤ 2 ^ 62 := by exact_mod_cast Nat.pow_le_pow_right (by omega) (show i ≤ 62 by omega)
  have hb : b.toNat < 2 ^ i := by have : ((b.toNat : Int)) < ((2 ^ i : Nat) : Int) := by push_cast; omega
                                  exact_mod_cast this
  rw [i64_or a b h0 (by omega) h2 (by omega), nat_join i _ _ hm hb]
  omega
structure Byt (w : World) (A : Option Addr) (len cap b off : Nat) (l : List UInt8) : Prop where
  hlen : l.length = len
  le : len ≤ cap
  hmax : cap ≤ maxLen
  addr : 0 < len → A = some ⟨b, off, none⟩ ∧ b < w.heap.size
  cell : ∀ j u, l[j]? = some u → w.cell? ⟨b, off + j, none⟩ = some (.int .u8 (u.toNat : Int))
theorem info5 : (Try.prog.info? 5).map (fun i => (i.zero, i.size, i.bytes)) = some (some (.int .u8 0), 1, 1) := by kernel_rfl
theorem wpList_own_append {P : Program} {e t tx : TypeId} (w : World) {ops : Array Oper} {rest : List Oper} {o : Oper} {a : Act} {Q : Exit → Act → World → Prop} (hgd : o.guard = none) (s x : Operand)
    (ho : o.op = .call { callee := .builtin .append, args := #[s, x], argTypes := #[t, tx] }) {i : TypeInfo} {z : Value} (ht : P.underlying t = some (.slice e)) (hi : P.info? e = some i) (hz : i.zero = some z) (hsz : i.size = 1) (hby : i.bytes = 1) (hzs : z.cells.size = 1)
    {B : Nat} {v : Value} {l : List UInt8} (hv : a.eval s = v) (h : Own e B w v l) (hB : B ≤ w.heap.size) (xv : Value) (hx : a.eval x = xv) (more : List UInt8) (hs : Src P 1 tx xv more.length (more.map bv) w) (h63 : l.length + more.length ≤ 140737488355328)
    (hK : ∀ v' w', Own e B w' v' (l ++ more) → Below B w w' → wpList P ops Q rest (a.put o.dst v') w') : wpList P ops Q (o :: rest) a w := by
  refine wpList_plain hgd fun K hK' => ?_
  obtain ⟨v', w', hrun, r1, r2⟩ := own_append (P := P) (ty := o.type) ht hi hz hsz hby hzs h hB xv more hs h63
  unfold Oper.wp
  simp [execOp, ho, resolve, invoke, builtin, hv, hx, hrun, Result.andThen]
  exact hK' _ _ (hK v' w' r1 r2)
theorem Byt.below {w w' : World} {A : Option Addr} {len cap b off : Nat} {l : List UInt8} (h : Byt w A len cap b off l) (hb : Below w.heap.size w w') : Byt w' A len cap b off l :=
  ⟨h.hlen, h.le, h.hmax, fun hz => ⟨(h.addr hz).1, Nat.lt_of_lt_of_le (h.addr hz).2 hb.size⟩, fun j u hu => by
    have hl : 0 < len := by
      rw [← h.hlen]
      have := (List.getElem?_eq_some_iff.1 hu).1
      omega
    exact (World.cell?_of_block (hb.block b (h.addr hl).2)).trans (h.cell j u hu)⟩
theorem Byt.src {w : World} {a : Addr} {len cap b off : Nat} {l : List UInt8} (h : Byt w (some a) len cap b off l) : Src Try.prog 1 26 (.slice (some a) len cap) l.length (l.map bv) w := by
  rcases Nat.eq_zero_or_pos len with hz | hz
  · have hl := h.hlen
    subst hz
    have hl0 : l = [] := List.length_eq_zero_iff.1 hl
    subst hl0
    exact Src.ofSlice w Try.underlying26 _ _ _ _ (by simp) (fun j u hu => by simp at hu) (fun u hu => by simp at hu)
  obtain ⟨ha, _⟩ := h.addr hz
  simp at ha
  subst ha
  rw [← h.hlen]
  exact Src.ofSlice w Try.underlying26 _ _ _ _ (by simp) (fun j u hu => by
    rw [List.getElem?_map] at hu
    cases hj : l[j]? with
    | none => rw [hj] at hu; cases hu
    | some x => rw [hj] at hu; simp at hu; subst hu; rw [add_plain]; exact h.cell j x hj) (fun u hu => by
    obtain ⟨x, _, rfl⟩ := List.mem_map.1 hu
    rfl)
theorem clone_some {a : Addr} {len cap b off : Nat} {w : World} {l : List UInt8} (h : Byt w (some a) len cap b off l) (hm : len ≤ 140737488355328) :
    Calls Try.prog 47 #[.slice (some a) len cap] w fun e w' => ∃ v, e = .returned v ∧ Own 5 w.heap.size w' v l ∧ Below w.heap.size w w' := by
  have HB := Lib.hid h
  have hq : ∀ W, (binOp .eql 26 (.slice (some a) len cap) (.slice none 0 0)).run Try.prog W = .ok (.bool false) W := fun W => Lib.run_eql_slice_nil W 26 _ (some a) len cap 0 0 Try.underlying26
  obtain ⟨i0, hi, hz0, hz1, hz2⟩ := info_parts info5
  clear h
  go_enter Try.func47, Try.ntmps47
  have HA : Below w.heap.size w (w.alloc (Obj.cells #[] 5)) := (Below.refl _ _).alloc (Nat.le_refl _) _
  have HB2 := Lib.hid (HB.out.below HA)
  have HA2 := Lib.hid HA
  clear HA
  go_wp2_with (at_builtin; refine wpList_own_append (t := 26) (tx := 26) (z := .int .u8 0) _ rfl (.tmp 5) (.tmp 6) rfl Try.underlying26 hi hz0 hz1 hz2 rfl rfl (Own.nil 5 w.heap.size _ _) (by simp) _ rfl l (HB2.out.src) (by simpa [HB.out.hlen] using hm) ?_)
  intro v' w' h1 h2
  have H1 := Lib.hid h1
  have H2 := Lib.hid h2
  clear h1 h2
  go_wp2
  go_ret
  exact ⟨v', rfl, H1.out, HA2.out.trans H2.out⟩
theorem clone_none (len cap : Nat) (w : World) :
    Calls Try.prog 47 #[.slice none len cap] w fun e w' => e = .returned (.slice none 0 0) ∧ w = w' := by
  have hq : ∀ W, (binOp .eql 26 (.slice none len cap) (.slice none 0 0)).run Try.prog W = .ok (.bool true) W := fun W => Lib.run_eql_slice_nil W 26 _ none len cap 0 0 Try.underlying26
  go_enter Try.func47, Try.ntmps47
  go_wp2
  go_ret
  exact ⟨rfl, rfl⟩
theorem clone_any {A : Option Addr} {len cap b off : Nat} {w : World} {l : List UInt8} (h : Byt w A len cap b off l) (hm : len ≤ 140737488355328) :
    Calls Try.prog 47 #[.slice A len cap] w fun e w' => ∃ v, e = .returned v ∧ Own 5 w.heap.size w' v l ∧ Below w.heap.size w w' := by
  cases A with
  | some a => exact clone_some h hm
  | none =>
    refine (clone_none len cap w).mono ?_
    rintro e w' ⟨rfl, rfl⟩
    have hl : l = [] := by
      apply List.length_eq_zero_iff.1
      rw [h.hlen]
      rcases Nat.eq_zero_or_pos len with hz | hz
      · exact hz
      · cases (h.addr hz).1
    subst hl
    exact ⟨_, rfl, Own.nil _ _ _ _, Below.refl _ _⟩
theorem step_own_append {P : Program} {ops : Array Oper} {o : Oper} {a : Act} {w : World} {K : Act → World → Prop} {Q : Exit → Act → World → Prop} {E : Prop} {e t tx : TypeId} (hgd : o.guard = none) (s x : Operand)
    (ho : o.op = .call { callee := .builtin .append, args := #[s, x], argTypes := #[t, tx] }) {i : TypeInfo} {z : Value} (ht : P.underlying t = some (.slice e)) (hi : P.info? e = some i) (hz : i.zero = some z) (hsz : i.size = 1) (hby : i.bytes = 1) (hzs : z.cells.size = 1)
    {B : Nat} {v : Value} {l : List UInt8} (hv : a.eval s = v) (h : Own e B w v l) (hB : B ≤ w.heap.size) (xv : Value) (hx : a.eval x = xv) (more : List UInt8) (hs : Src P 1 tx xv more.length (more.map bv) w) (h63 : l.length + more.length ≤ 140737488355328)
    (hK : ∀ v' w', Own e B w' v' (l ++ more) → Below B w w' → K (a.put o.dst v') w') :
    if Region.wanted o (yielded ops a.tmps) = true then Oper.wp P o a w K Q else E := by
  have hw : Region.wanted o (yielded ops a.tmps) = true := by simp [Region.wanted, hgd]
  rw [if_pos hw]
  obtain ⟨v', w', hrun, r1, r2⟩ := own_append (P := P) (ty := o.type) ht hi hz hsz hby hzs h hB xv more hs h63
  unfold Oper.wp
  simp [execOp, ho, resolve, invoke, builtin, hv, hx, hrun, Result.andThen]
  exact hK v' w' r1 r2
theorem bv_ofNat (n : Nat) : bv (UInt8.ofNat n) = .int .u8 (IntKind.u8.wrap (n : Int)) := by
  unfold bv
  rw [IntKind.wrap_u8', UInt8.toNat_ofNat']
  congr 1
theorem str_src (s : ByteArray) (W : World) : Src Try.prog 1 9 (.string s) s.data.toList.length (s.data.toList.map bv) W := by
  have h := Src.ofString (P := Try.prog) (tx := 9) W Try.underlying9 s
  have e : s.data.toList.length = s.size := Array.length_toList
  rw [e]
  exact h
theorem byt_open {w : World} {A : Option Addr} {len cap : Nat} (S : Sh.ok w (Sh.slice 1 (Sh.int .u8)) [.slice A len cap]) : ∃ b off l, Byt w A len cap b off l := by
  obtain ⟨b, off, hle, hmax, ha, hc⟩ := slice_at S (by omega)
  have H : ∀ i, i < len → ∃ u : UInt8, w.cell? ⟨b, off + i, none⟩ = some (.int .u8 (u.toNat : Int)) := by
    intro i hi
    obtain ⟨cs, hl, hok, hcell⟩ := hc i hi
    simp only [Sh.ok] at hok
    obtain ⟨x, rfl, wf⟩ := hok
    have hx : 0 ≤ x ∧ x ≤ 255 := by simpa [Lit.wf, IntKind.min, IntKind.max, IntKind.signed, IntKind.bits] using wf
    have := hcell 0 (by omega)
    simp at this
    exact ⟨UInt8.ofNat x.toNat, by rw [this, UInt8.toNat_ofNat']; congr 2; omega⟩
  refine ⟨b, off, List.ofFn (fun i : Fin len => Classical.choose (H i.1 i.2)), by simp, hle, hmax, ha, fun j u hu => ?_⟩
  have hj : j < len := by have := (List.getElem?_eq_some_iff.1 hu).1; simpa using this
  rw [List.getElem?_eq_getElem (by simpa using hj)] at hu
  simp only [List.getElem_ofFn, Option.some.injEq] at hu
  rw [← hu]
  exact Classical.choose_spec (H j hj)
theorem Own.byt {e : TypeId} {B : Nat} {w : World} {v : Value} {l : List UInt8} (h : Own e B w v l) : ∃ A cap b, v = .slice A l.length cap ∧ Byt w A l.length cap b 0 l := by
  obtain ⟨A, cap, b, rfl, hle, hmax, ha, hb, hc⟩ := h.reads
  exact ⟨A, cap, b, rfl, rfl, hle, hmax, ha, fun j u hu => hc j u hu⟩
theorem Own.bytL {e : TypeId} {B : Nat} {w : World} {v : Value} {l : List UInt8} (h : Own e B w v l) : ∃ A L cap b, v = .slice A L cap ∧ L = l.length ∧ L ≤ cap ∧ cap ≤ maxLen ∧ Byt w A L cap b 0 l := by
  obtain ⟨A, cap, b, rfl, hb⟩ := h.byt
  exact ⟨A, _, cap, b, rfl, rfl, hb.le, hb.hmax, hb⟩
theorem Own.bytS {e : TypeId} {B : Nat} {w : World} {A : Option Addr} {L cap : Nat} {l : List UInt8} (h : Own e B w (.slice A L cap) l) : ∃ b, Byt w A L cap b 0 l := by
  obtain ⟨A', cap', b, hv, hb⟩ := h.byt
  simp at hv
  obtain ⟨rfl, rfl, rfl⟩ := hv
  exact ⟨b, hb⟩
theorem Byt.first {w : World} {A : Option Addr} {len cap b off : Nat} {l : List UInt8} (h : Byt w A len cap b off l) (k : Nat) (hk : k ≤ len) : Byt w A k cap b off (l.take k) :=
  ⟨by rw [List.length_take, h.hlen]; omega, Nat.le_trans hk h.le, h.hmax, fun hz => h.addr (by omega), fun j u hu => by
    rw [List.getElem?_take] at hu
    split at hu
    · exact h.cell j u hu
    · cases hu⟩
theorem Byt.srcs {w : World} {A : Option Addr} {len cap b off : Nat} {l : List UInt8} (h : Byt w A len cap b off l) : Src Try.prog 1 26 (.slice A len cap) l.length (l.map bv) w := by
  cases A with
  | some a => exact h.src
  | none =>
    have hz : len = 0 := by
      rcases Nat.eq_zero_or_pos len with hz | hz
      · exact hz
      · have := (h.addr hz).1; cases this
    have hl := h.hlen
    subst hz
    have hl0 : l = [] := List.length_eq_zero_iff.1 hl
    subst hl0
    exact Src.ofNil w Try.underlying26 _
theorem sub_bytes {W : World} {b off len cap : Nat} {l : List UInt8} (hc : ∀ j u, l[j]? = some u → W.cell? ⟨b, off + j, none⟩ = some (.int .u8 (u.toNat : Int))) (hl : l.length = len) :
    (convert 26 9 (.slice (some ⟨b, off, none⟩) len cap)).run Try.prog W = .ok (.string ⟨l.toArray⟩) W := by
  subst hl
  exact run_convert_bytes_back _ 26 9 5 _ cap l Try.underlying26 Try.underlying5 Try.underlying9 (fun j hj => by rw [add_plain]; exact hc j _ (List.getElem?_eq_getElem hj))
theorem own_text {e : TypeId} {B : Nat} {w : World} {v : Value} {l : List UInt8} (h : Own e B w v l) : (convert 26 9 v).run Try.prog w = .ok (.string ⟨l.toArray⟩) w := by
  obtain ⟨A, cap, b, rfl, hle, hmax, ha, hb, hc⟩ := h.reads
  rcases Nat.eq_zero_or_pos l.length with hz | hz
  · have hl0 : l = [] := List.length_eq_zero_iff.1 hz
    subst hl0
    rw [run_convert_bytes_string w 26 9 5 _ _ cap Try.underlying26 Try.underlying5 Try.underlying9]
    cases A <;> simp [Conv.bytesToString, loadCells]
    all_goals rfl
  · rw [(ha hz).1]
    exact run_convert_bytes_back w 26 9 5 _ cap l Try.underlying26 Try.underlying5 Try.underlying9 (fun j hj => by rw [add_plain]; exact hc j _ (List.getElem?_eq_getElem hj))
theorem byt_text {w : World} {A : Option Addr} {len cap b off : Nat} {l : List UInt8} (h : Byt w A len cap b off l) : (convert 26 9 (.slice A len cap)).run Try.prog w = .ok (.string ⟨l.toArray⟩) w := by
  rcases Nat.eq_zero_or_pos len with hz | hz
  · have hl := h.hlen
    subst hz
    have hl0 : l = [] := List.length_eq_zero_iff.1 hl
    subst hl0
    rw [run_convert_bytes_string w 26 9 5 _ _ cap Try.underlying26 Try.underlying5 Try.underlying9]
    cases A <;> simp [Conv.bytesToString, loadCells]
    all_goals rfl
  · rw [(h.addr hz).1]
    exact sub_bytes h.cell h.hlen
theorem nil_text (w : World) : (convert 26 9 (.slice none 0 0)).run Try.prog w = .ok (.string ⟨#[]⟩) w := by
  have h := own_text (e := 5) (B := 0) (Own.nil 5 0 w none)
  exact h
set_option maxRecDepth 100000
theorem Own.set {e : TypeId} {B : Nat} {w : World} {A : Option Addr} {L cap : Nat} {l : List UInt8} (h : Own e B w (.slice A L cap) l) (P : Nat) (hP : P < l.length) (u : UInt8) :
    ∃ g, A = some ⟨g, 0, none⟩ ∧ L = l.length ∧ L ≤ cap ∧ cap ≤ maxLen ∧ B ≤ g ∧ w.cell? ⟨g, P, none⟩ = some (.int .u8 ((l[P]'hP).toNat : Int)) ∧ w.frozen? ⟨g, P, none⟩ = false ∧ Own e B (w.setCell ⟨g, P, none⟩ (.int .u8 (u.toNat : Int))) (.slice A L cap) (l.set P u) := by
  obtain ⟨ao, cap', hv, hle, hmax, hrow⟩ := h
  simp at hv
  obtain ⟨rfl, rfl, rfl⟩ := hv
  rcases hrow with h0 | ⟨g, cur, rfl, hg, hh, hcs, htk⟩
  · omega
  · have hPc : P < cur.size := by omega
    have hcell : cur[P]? = some (.int .u8 ((l[P]'hP).toNat : Int)) := by
      have hj : (l.map bv)[P]? = some (bv l[P]) := by rw [List.getElem?_map, List.getElem?_eq_getElem hP]; rfl
      rw [← htk, List.getElem?_take, if_pos hP] at hj
      rw [← Array.getElem?_toList]; exact hj
    refine ⟨g, rfl, rfl, hle, hmax, hg, by rw [cell_of_row w g P cur e (0, 0) hh]; exact hcell, by simp [World.frozen?, hh], _, cap, by rw [List.length_set], by rw [List.length_set]; exact hle, hmax, .inr ⟨g, cur.setIfInBounds P (.int .u8 (u.toNat : Int)), rfl, hg, ?_, by rw [Array.size_setIfInBounds]; exact hcs, ?_⟩⟩
    · simp [World.setCell, Array.getElem?_modify, hh]
    · rw [List.length_set, Array.toList_setIfInBounds, List.take_set, htk, List.map_set]
      rfl
theorem take_snoc (s : ByteArray) (k : Nat) (h : k < s.size) : s.data.toList.take (k + 1) = s.data.toList.take k ++ [s[k]] := by
  rw [List.take_succ_eq_append_getElem (by simpa using h)]; rfl
theorem take_all (s : ByteArray) (k : Nat) (h : ¬ k < s.size) : s.data.toList.take k = s.data.toList :=
  List.take_of_length_le (by simpa using h)
theorem idx_str (s : ByteArray) (i : Nat) (j : Int) (e : j = (i : Int)) {u : UInt8} (h : s.data.toList[i]? = some u) (W : World) : (Instr.index 9 (.string s) (.int .i64 j)).run Try.prog W = .ok (.int .u8 (u.toNat : Int)) W := by
  subst e
  obtain ⟨hi, hu⟩ := List.getElem?_eq_some_iff.1 h
  have hi2 : i < s.size := by simpa using hi
  rw [run_index_string _ _ _ _ _ Try.underlying9, dif_pos (by omega)]
  rw [← hu]
  rfl
end Go.Proofs.Ytdoldjfabgcgbaa
