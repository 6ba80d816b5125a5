/- Digits of versions, their check, and what is read back: plain lists and numbers, no program. -/
import Derived.Lib.IndexLaws
import Derived.Lib.Strings
import Derived.WideShapes
namespace Go.Proofs.Ytdjibpjdgfhcoaa
set_option linter.unusedVariables false

def sgL : List UInt8 := [48, 49, 50, 51, 52, 53, 54, 55, 56, 57, 97, 98, 99, 100, 101, 102, 103, 104, 106, 107, 109, 110, 112, 113, 114, 115, 116, 118, 119, 120, 121, 122]
def sg (k : Nat) : UInt8 := sgL.getD k 0
def ix (c : UInt8) : Int := Lib.indexByte sgL c
theorem ix_sg : ∀ k, k < 32 → ix (sg k) = (k : Int) := by decide +kernel
theorem ix_lt (c : UInt8) : ix c ≤ 31 := by
  have h1 := Lib.indexByte_ge sgL c
  rcases Int.lt_or_le (Lib.indexByte sgL c) 0 with h | h
  · unfold ix; omega
  · obtain ⟨k, hk⟩ : ∃ k : Nat, ix c = (k : Int) := ⟨(ix c).toNat, by unfold ix; omega⟩
    have h3 := (List.getElem?_eq_some_iff.1 (Lib.indexByte_some hk).1).1
    have : sgL.length = 32 := rfl
    omega
theorem ix_ge (c : UInt8) : -1 ≤ ix c := Lib.indexByte_ge _ _
def digsF : Nat → Nat → List UInt8
  | 0, _ => []
  | f + 1, n => if n = 0 then [] else digsF f (n / 32) ++ [sg (n % 32)]
def digs (n : Nat) : List UInt8 := digsF 14 n
theorem digsF_len : ∀ f n, (digsF f n).length ≤ f
  | 0, n => by simp [digsF]
  | f + 1, n => by
    unfold digsF
    split
    · simp
    · have := digsF_len f (n / 32); simp; omega
theorem digsF_eq (f n : Nat) : digsF (f + 1) n = if n = 0 then [] else digsF f (n / 32) ++ [sg (n % 32)] := rfl
theorem digsF_more : ∀ f n, n < 32 ^ f → digsF (f + 1) n = digsF f n
  | 0, n, h => by
    obtain rfl : n = 0 := by simpa using h
    rfl
  | f + 1, n, h => by
    have h' : n / 32 < 32 ^ f := by
      rw [Nat.pow_succ] at h
      exact Nat.div_lt_of_lt_mul (by omega)
    rw [digsF_eq (f + 1) n, digsF_eq f n, digsF_more f _ h']
theorem digs_len (n : Nat) : (digs n).length ≤ 14 := digsF_len _ _
theorem digs_zero : digs 0 = [] := rfl
theorem digs_step (n : Nat) (h0 : 0 < n) (h : n < 9223372036854775808) : digs n = digs (n / 32) ++ [sg (n % 32)] := by
  have h1 : n / 32 < 32 ^ 13 := by
    have : n / 32 ≤ n := Nat.div_le_self _ _
    have : (9223372036854775808 : Nat) < 32 ^ 13 := by decide
    omega
  show digsF (13 + 1) n = digsF (13 + 1) (n / 32) ++ _
  rw [digsF_more 13 _ h1, digsF_eq, if_neg (by omega)]
theorem digs_pos (n : Nat) (h0 : 0 < n) (h : n < 9223372036854775808) : 1 ≤ (digs n).length := by
  rw [digs_step n h0 h]; simp
theorem sg_lt : ∀ k, k < 32 → 0 ≤ ix (sg k) := fun k hk => by rw [ix_sg k hk]; omega
theorem digsF_all : ∀ f n, ∀ c ∈ digsF f n, 0 ≤ ix c
  | 0, n => by simp [digsF]
  | f + 1, n => by
    unfold digsF
    split
    · simp
    · intro c hc
      rcases List.mem_append.1 hc with h | h
      · exact digsF_all f _ c h
      · obtain rfl : c = sg (n % 32) := by simpa using h
        exact sg_lt _ (Nat.mod_lt _ (by decide))
theorem digs_all (n : Nat) : ∀ c ∈ digs n, 0 ≤ ix c := digsF_all _ _
def stp (s : Int) (c : UInt8) : Int := (3 * s + ix c) % 31
def chkF (s : Int) (l : List UInt8) : Int := l.foldl stp s
def chk (l : List UInt8) : Int := chkF 7 l
theorem stp_rng (s : Int) (c : UInt8) : 0 ≤ stp s c ∧ stp s c < 31 := by unfold stp; omega
theorem chkF_rng : ∀ (l : List UInt8) (s : Int), 0 ≤ s → s < 31 → 0 ≤ chkF s l ∧ chkF s l < 31
  | [], s, h0, h1 => ⟨h0, h1⟩
  | c :: l, s, h0, h1 => chkF_rng l (stp s c) (stp_rng s c).1 (stp_rng s c).2
theorem chk_rng (l : List UInt8) : 0 ≤ chk l ∧ chk l < 31 := chkF_rng l 7 (by omega) (by omega)
theorem chkF_ne : ∀ (l : List UInt8) (s t : Int), 0 ≤ s → s < 31 → 0 ≤ t → t < 31 → s ≠ t → chkF s l ≠ chkF t l
  | [], s, t, _, _, _, _, h => h
  | c :: l, s, t, h0, h1, h2, h3, h => chkF_ne l (stp s c) (stp t c) (stp_rng s c).1 (stp_rng s c).2 (stp_rng t c).1 (stp_rng t c).2 (by unfold stp; omega)
theorem chk_snoc (l : List UInt8) (c : UInt8) : chk (l ++ [c]) = stp (chk l) c := by simp [chk, chkF]
theorem chk_turned (l r : List UInt8) (c d : UInt8) (h : ix c % 31 ≠ ix d % 31) : chk (l ++ c :: r) ≠ chk (l ++ d :: r) := by
  have e : ∀ x, chk (l ++ x :: r) = chkF (stp (chk l) x) r := fun x => by simp [chk, chkF]
  rw [e, e]
  refine chkF_ne r _ _ (stp_rng _ _).1 (stp_rng _ _).2 (stp_rng _ _).1 (stp_rng _ _).2 ?_
  unfold stp
  omega
def shL (n : Nat) : List UInt8 := 34 :: (digs n ++ [sg (chk (digs n)).toNat, 34])
def shw (n : Int) : ByteArray := if n < 1 then ⟨#[]⟩ else ⟨(shL n.toNat).toArray⟩
theorem shL_len (n : Nat) : (shL n).length = (digs n).length + 3 := by simp [shL]
/-- What is read digit by digit: none where a sign is none, or the number is above what may be. -/
def rd (a : Option Int) (c : UInt8) : Option Int := match a with
  | none => none
  | some v => if ix c < 0 ∨ (9223372036854775807 - ix c) / 32 < v then none else some (v * 32 + ix c)
def rds (l : List UInt8) : Option Int := l.foldl rd (some 0)
theorem rds_snoc (l : List UInt8) (c : UInt8) : rds (l ++ [c]) = rd (rds l) c := by simp [rds]
theorem rd_none (l : List UInt8) : l.foldl rd none = none := by
  induction l with
  | nil => rfl
  | cons c l ih => exact ih
theorem rds_cut (l r : List UInt8) (h : rds l = none) : rds (l ++ r) = none := by
  simp only [rds, List.foldl_append] at h ⊢
  rw [h, rd_none]
theorem rdF_rng : ∀ (l : List UInt8) (u v : Int), 0 ≤ u → u ≤ 9223372036854775807 → l.foldl rd (some u) = some v → 0 ≤ v ∧ v ≤ 9223372036854775807
  | [], u, v, h0, h1, h => by
    simp only [List.foldl_nil, Option.some.injEq] at h
    omega
  | c :: l, u, v, h0, h1, h => by
    simp only [List.foldl_cons, rd] at h
    split at h
    · rw [rd_none] at h; cases h
    · have := ix_lt c
      exact rdF_rng l _ v (by omega) (by omega) h
theorem rds_rng (l : List UInt8) (v : Int) (h : rds l = some v) : 0 ≤ v ∧ v ≤ 9223372036854775807 := rdF_rng l 0 v (by omega) (by omega) h
theorem rds_digs : ∀ n : Nat, n < 9223372036854775808 → rds (digs n) = some (n : Int) := by
  intro n
  induction n using Nat.strongRecOn with
  | ind n ih =>
    intro h
    rcases Nat.eq_zero_or_pos n with rfl | h0
    · rfl
    · rw [digs_step n h0 h, rds_snoc, ih (n / 32) (Nat.div_lt_self h0 (by decide)) (by omega)]
      simp only [rd, ix_sg _ (Nat.mod_lt n (show 0 < 32 by decide))]
      rw [if_neg (by omega)]
      congr 1
      omega
def mid (s : List UInt8) : List UInt8 := (s.drop 1).take (s.length - 3)
theorem mid_sh (n : Nat) : mid (shL n) = digs n := by
  unfold mid shL
  simp
def prs (s : ByteArray) : Int × Bool := if s.size < 4 then (0, false) else match rds (mid s.data.toList) with
  | none => (0, false)
  | some v => if v < 1 ∨ shw v ≠ s then (0, false) else (v, true)
end Go.Proofs.Ytdjibpjdgfhcoaa
