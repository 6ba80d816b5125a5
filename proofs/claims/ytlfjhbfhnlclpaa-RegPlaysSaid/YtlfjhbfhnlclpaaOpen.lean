/- What an argument that can be read as data is: integers in their range, bools, strings, structs of these, slices of these, cell by cell. -/
import Derived.Below
import Derived.ChangeSame
import Derived.WalkKit
import Derived.ProofKit
import Derived.OpenShut
namespace Go.Proofs.Ytlfjhbfhnlclpaa
open Go.RowKit Go.WideShapes Go.ChangeShapes

inductive Sh where
  | int (k : IntKind)
  | bool
  | str
  | agg (n : Nat) (l : List (Nat × Nat × Sh))
  | slice (n : Nat) (e : Sh)

mutual
def Sh.ok (w : World) : Sh → List Value → Prop
  | .int k, cs => ∃ a, cs = [.int k a] ∧ (Lit.int k a).wf = true
  | .bool, cs => ∃ b, cs = [.bool b]
  | .str, cs => ∃ s : ByteArray, cs = [.string s] ∧ s.size ≤ maxLen
  | .agg n l, cs => cs.length = n ∧ Sh.okAll w l cs
  | .slice n e, cs => cs = [.slice none 0 0] ∨ ∃ (a : Addr) (len cap : Nat), cs = [.slice (some a) len cap] ∧ len ≤ cap ∧ cap ≤ maxLen ∧
      ∀ i, i < len → ∃ cs', w.cells? 0 (a.add (i * n)) n = some cs' ∧ Sh.ok w e cs'
def Sh.okAll (w : World) : List (Nat × Nat × Sh) → List Value → Prop
  | [], _ => True
  | (o, n, s) :: r, cs => Sh.ok w s ((cs.drop o).take n) ∧ Sh.okAll w r cs
end

def shAll (P : Program) (sh : TypeId → Option Sh) : List Field → Option (List (Nat × Nat × Sh))
  | [] => some []
  | f :: r => match sh f.type, shAll P sh r with
    | some s, some l => some ((f.offset, P.cellsOf f.type, s) :: l)
    | _, _ => none
def sh (P : Program) : Nat → TypeId → Option Sh
  | 0, _ => none
  | n + 1, t => match P.underlying t with
    | some (.int k) => some (.int k)
    | some .bool => some .bool
    | some .string => some .str
    | some (.struct fs) => match shAll P (sh P n) fs.toList with
      | some l => some (.agg (P.cellsOf t) l)
      | none => none
    | some (.slice e) => match sh P n e with
      | some s => some (.slice (P.cellsOf e) s)
      | none => none
    | _ => none

section
variable {H : Type} {enc : TypeId × Value → H} {P : Program} {w : World} {spare : Nat → Bool} {held : Bool}
theorem shAll_ok {F : TypeId → Option Sh} {n : Nat} {cs : List Value} (hF : ∀ t s cs x, F t = some s → DataW.trod enc P w 0 spare held n t cs = some x → Sh.ok w s cs) :
    ∀ (fs : List Field) (l : List (Nat × Nat × Sh)), shAll P F fs = some l → (∀ f ∈ fs, ∃ x, DataW.trod enc P w 0 spare held n f.type ((cs.drop f.offset).take (P.cellsOf f.type)) = some x) → Sh.okAll w l cs
  | [], l, h, _ => by
    simp only [shAll, Option.some.injEq] at h
    subst h
    simp [Sh.okAll]
  | f :: r, l, h, hx => by
    simp only [shAll] at h
    split at h
    next s l' h1 h2 =>
      simp only [Option.some.injEq] at h
      subst h
      obtain ⟨x, hx0⟩ := hx f (List.mem_cons.2 (.inl rfl))
      simp only [Sh.okAll]
      exact ⟨hF _ _ _ _ h1 hx0, shAll_ok hF r l' h2 (fun g hg => hx g (List.mem_cons.2 (.inr hg)))⟩
    next => cases h

theorem sh_ok : ∀ (m : Nat) (t : TypeId) (s : Sh) (n : Nat) (cs : List Value) (x : DataW H × List MemPlace), sh P m t = some s → DataW.trod enc P w 0 spare held n t cs = some x → Sh.ok w s cs := by
  intro m
  induction m with
  | zero => intro t s n cs x h; simp [sh] at h
  | succ m ih =>
    intro t s n cs x h hx
    simp only [sh] at h
    split at h
    next k hk =>
      simp only [Option.some.injEq] at h
      subst h
      obtain ⟨a, h1, _, h3⟩ := DataW.trod_int hk hx
      simp only [Sh.ok]
      exact ⟨a, h1, h3⟩
    next hk =>
      simp only [Option.some.injEq] at h
      subst h
      obtain ⟨a, h1, _⟩ := DataW.trod_bool hk hx
      simp only [Sh.ok]
      exact ⟨a, h1⟩
    next hk =>
      simp only [Option.some.injEq] at h
      subst h
      obtain ⟨a, h1, _, h3⟩ := DataW.trod_string hk hx
      simp only [Sh.ok]
      exact ⟨a, h1, h3⟩
    next fs hk =>
      split at h
      next l hl =>
        simp only [Option.some.injEq] at h
        subst h
        obtain ⟨xs, n', _, _, hlen, hxl, hat⟩ := DataW.trod_struct hk hx
        simp only [Sh.ok]
        refine ⟨hlen, shAll_ok (n := n') (fun t s cs x h1 h2 => ih t s n' cs x h1 h2) fs.toList l hl (fun f hf => ?_)⟩
        obtain ⟨i, hi, e⟩ := List.mem_iff_getElem.1 hf
        have hi' : i < fs.size := by simpa using hi
        have h1 : fs[i]? = some f := by rw [Array.getElem?_eq_getElem hi']; simp at e; rw [e]
        have h2 := hat i f h1
        rw [h2]
        exact ⟨_, List.getElem?_eq_getElem (by omega)⟩
      next => cases h
    next e hk =>
      split at h
      next s' hs' =>
        simp only [Option.some.injEq] at h
        subst h
        simp only [Sh.ok]
        rcases DataW.trod_slice hk hx with ⟨h1, _⟩ | ⟨a, len, cap, elems, rest, n', _, h1, _, _, hl, hm, hel, hc, _⟩
        · exact .inl h1
        · refine .inr ⟨a, len, cap, h1, hl, hm, fun i hi => ?_⟩
          have h2 := hc i hi
          rw [List.getElem?_eq_getElem (by omega)] at h2
          obtain ⟨cs', h3, h4⟩ := Option.bind_eq_some_iff.1 h2
          exact ⟨cs', h3, ih e s' n' cs' _ hs' h4⟩
      next => cases h
    next => cases h

/-- An argument: its cells are of its type's shape. -/
theorem arg_ok {t : TypeId} {s : Sh} {v : Value} {d : DataW H} {p : List MemPlace} (m : Nat) (hs : sh P m t = some s) (h : DataW.Trod enc P w 0 spare held t v d p) : Sh.ok w s v.cells.toList := by
  obtain ⟨n, hn⟩ := h
  exact sh_ok m t s n _ _ hs hn
end
theorem cells_lt {w : World} {a : Addr} {n : Nat} {cs : List Value} (h : w.cells? 0 a n = some cs) {j : Nat} (hj : j < n) : w.cell? (a.add j) = cs[j]? := by
  obtain ⟨_, hl, hat⟩ := World.cells?_some h
  exact hat j hj
end Go.Proofs.Ytlfjhbfhnlclpaa
