/- Texts of one proof, joined. -/
import Derived.Test.YtphijnkiiokieaaGreatDoorZak
import Derived.Lib.SlicesCompact
import Derived.Deep.AppendLies
set_option linter.unusedVariables false
set_option linter.unusedSimpArgs false
set_option maxRecDepth 100000
set_option maxHeartbeats 80000000
namespace Go.Proofs.YtphijnkiiokieaaGreatDoor
open Go.RowKit
open Go.Lib hiding intOf
open Go.Sort
instance decBA : DecidableEq ByteArray := fun a b => decidable_of_iff (a.data = b.data) ⟨fun h => by cases a; cases b; exact congrArg _ h, fun h => congrArg _ h⟩
def ltF (f g : F3) : Bool := lessF f.1 f.2.1 f.2.2 g.1 g.2.1 g.2.2
theorem ltF_irr (f : F3) : ltF f f = false := lessF_irr _ _ _
theorem ltF_asym {f g : F3} (h : ltF f g = true) : ltF g f = false := lessF_asym h
theorem ltF_trans {f g h : F3} (a : ltF f g = true) (b : ltF g h = true) : ltF f h = true := lessF_trans a b
theorem ltF_total {f g : F3} (h : f ≠ g) : ltF f g = true ∨ ltF g f = true := by
 refine lessF_total ?_; rintro ⟨h1, h2, h3⟩
 exact h (Prod.ext h1 (Prod.ext h2 h3))
def cfF (f g : F3) : Int := ordF f.1 f.2.1 f.2.2 g.1 g.2.1 g.2.2
theorem ltOf_cfF : Go.Proofs.ltOf cfF = ltF := by
 funext f g
 show decide (ordF f.1 f.2.1 f.2.2 g.1 g.2.1 g.2.2 < 0) = lessF f.1 f.2.1 f.2.2 g.1 g.2.1 g.2.2
 unfold ordF
 split
 ·
  rename_i h; rw [h]; rfl
 ·
  rename_i h
  have h0 : lessF f.1 f.2.1 f.2.2 g.1 g.2.1 g.2.2 = false := by simpa using h
  rw [h0]
  split <;> rfl
theorem swoF : SWO ltF where
 irrefl := ltF_irr
 trans := fun _ _ _ => ltF_trans
 ntrans := fun x y z h1 h2 => by
  cases h3 : ltF x z with
  | false => rfl
  | true =>
   by_cases e : x = y
   ·
    subst e; rw [h3] at h2; cases h2
   ·
    rcases ltF_total e with c | c
    ·
     rw [h1] at c; cases c
    ·
     have := ltF_trans c h3
     rw [h2] at this; cases this
abbrev Str (l : List F3) : Prop := l.Pairwise fun f g => ltF f g = true
theorem str_uniq : ∀ {l m : List F3}, Str l → Str m → (∀ x, x ∈ l ↔ x ∈ m) → l = m
 | [], [], _, _, _ => rfl
 | [], b :: m, _, _, h => by have := (h b).2 (List.mem_cons_self); cases this
 | a :: l, [], _, _, h => by have := (h a).1 (List.mem_cons_self); cases this
 | a :: l, b :: m, h1, h2, h => by
  obtain ⟨ha, hl⟩ := List.pairwise_cons.1 h1; obtain ⟨hb, hm⟩ := List.pairwise_cons.1 h2; have e : a = b := by
   rcases List.mem_cons.1 ((h a).1 List.mem_cons_self) with e | h3
   ·
    exact e
   ·
    rcases List.mem_cons.1 ((h b).2 List.mem_cons_self) with e | h4
    ·
     exact e.symm
    ·
     have h5 := ltF_asym (hb _ h3)
     rw [ha _ h4] at h5; cases h5
  subst e
  congr 1
  refine str_uniq hl hm fun x => ⟨fun hx => ?_, fun hx => ?_⟩
  ·
   rcases List.mem_cons.1 ((h x).1 (List.mem_cons_of_mem _ hx)) with e | h3
   ·
    subst e; have := ha _ hx; rw [ltF_irr] at this; cases this
   ·
    exact h3
  ·
   rcases List.mem_cons.1 ((h x).2 (List.mem_cons_of_mem _ hx)) with e | h3
   ·
    subst e; have := hb _ hx; rw [ltF_irr] at this; cases this
   ·
    exact h3
def hasF (f : F3) (l : List F3) : Bool := l.any fun g => decide (g = f)
theorem hasF_iff (f : F3) (l : List F3) : hasF f l = true ↔ f ∈ l := by
 unfold hasF
 rw [List.any_eq_true]
 constructor
 ·
  rintro ⟨x, h1, h2⟩
  exact of_decide_eq_true h2 ▸ h1
 ·
  intro h
  exact ⟨f, h, decide_eq_true rfl⟩
def insF (f : F3) (l : List F3) : List F3 := if hasF f l = true then l else l.filter (fun g => ltF g f) ++ f :: l.filter (fun g => !ltF g f)
def rise (l : List F3) : List F3 := l.foldl (fun acc f => insF f acc) []
theorem insF_mem (f : F3) (l : List F3) (x : F3) : x ∈ insF f l ↔ x ∈ l ∨ x = f := by
 unfold insF
 split
 ·
  rename_i h
  rw [hasF_iff] at h
  constructor
  ·
   exact Or.inl
  ·
   rintro (h1 | rfl)
   ·
    exact h1
   ·
    exact h
 ·
  simp only [List.mem_append, List.mem_cons, List.mem_filter]
  constructor
  ·
   rintro (⟨h1, _⟩ | rfl | ⟨h1, _⟩)
   ·
    exact .inl h1
   ·
    exact .inr rfl
   ·
    exact .inl h1
  ·
   rintro (h1 | rfl)
   ·
    cases h2 : ltF x f
    ·
     exact .inr (.inr ⟨h1, rfl⟩)
    ·
     exact .inl ⟨h1, rfl⟩
   ·
    exact .inr (.inl rfl)
theorem insF_str (f : F3) {l : List F3} (h : Str l) : Str (insF f l) := by
 unfold insF
 split
 ·
  exact h
 ·
  rename_i hn
  rw [hasF_iff] at hn; refine List.pairwise_append.2 ⟨h.filter _, List.pairwise_cons.2 ⟨fun x hx => ?_, h.filter _⟩, fun x hx y hy => ?_⟩
  ·
   obtain ⟨h1, h2⟩ := List.mem_filter.1 hx; have h3 : ltF x f = false := by simpa using h2
   have h4 : x ≠ f := fun e => hn (e ▸ h1)
   rcases ltF_total h4 with c | c
   ·
    rw [h3] at c; cases c
   ·
    exact c
  ·
   have h1 := (List.mem_filter.1 hx).2
   rcases List.mem_cons.1 hy with rfl | h2
   ·
    exact h1
   ·
    obtain ⟨h3, h4⟩ := List.mem_filter.1 h2; have h5 : ltF y f = false := by simpa using h4
    have h6 : y ≠ f := fun e => hn (e ▸ h3)
    rcases ltF_total h6 with c | c
    ·
     rw [h5] at c; cases c
    ·
     exact ltF_trans h1 c
theorem rise_snoc (l : List F3) (f : F3) : rise (l ++ [f]) = insF f (rise l) := by unfold rise; rw [List.foldl_append]; rfl
theorem foldIns_str : ∀ (l acc : List F3), Str acc → Str (l.foldl (fun acc f => insF f acc) acc)
 | [], _, h => h
 | f :: l, acc, h => foldIns_str l _ (insF_str f h)
theorem foldIns_mem : ∀ (l acc : List F3) (x : F3), x ∈ l.foldl (fun acc f => insF f acc) acc ↔ x ∈ acc ∨ x ∈ l
 | [], acc, x => by simp
 | f :: l, acc, x => by
  rw [List.foldl_cons, foldIns_mem l, insF_mem, List.mem_cons, or_assoc]
theorem rise_str (l : List F3) : Str (rise l) := foldIns_str l [] List.Pairwise.nil
theorem rise_mem (l : List F3) (x : F3) : x ∈ rise l ↔ x ∈ l := by unfold rise; rw [foldIns_mem]; simp
theorem rise_of {l m : List F3} (hm : Str m) (h : ∀ x, x ∈ m ↔ x ∈ l) : rise l = m := str_uniq (rise_str l) hm fun x => by rw [rise_mem, h]
theorem rise_length_le : ∀ l : List F3, (rise l).length ≤ l.length := by
 have insl : ∀ (f : F3) (l : List F3), (insF f l).length ≤ l.length + 1 := fun f l => by
  unfold insF
  split
  ·
   omega
  ·
   rename_i hx
   clear hx; have h1 : ((l.filter (fun g => ltF g f)).length + (l.filter (fun g => !ltF g f)).length) = l.length := by
    induction l with
    | nil => rfl
    | cons a l ih =>
     cases h : ltF a f <;> simp [List.filter_cons, h] <;> omega
   rw [List.length_append, List.length_cons]; omega
 have : ∀ (l acc : List F3), (l.foldl (fun acc f => insF f acc) acc).length ≤ acc.length + l.length := by
  intro l
  induction l with
  | nil => intro acc; simp
  | cons f l ih => intro acc; have := ih (insF f acc); have := insl f acc; rw [List.foldl_cons, List.length_cons]; omega
 intro l; have := this l []
 unfold rise
 simpa using this
instance : Inhabited F3 := ⟨(0, 0, ⟨#[]⟩)⟩
theorem compact_str {d : Array F3} (h : SortedIn ltF 0 d.size d) : Str (compactUpTo d d.size) := by
 have key : ∀ m, m ≤ d.size → Str (compactUpTo d m) ∧ ∀ x ∈ compactUpTo d m, ∃ i, i < m ∧ d[i]! = x := by
  intro m
  induction m with
  | zero => intro _; exact ⟨List.Pairwise.nil, fun x hx => by cases hx⟩
  | succ m ih =>
   intro hm; obtain ⟨ih1, ih2⟩ := ih (by omega); rw [compactUpTo_succ]
   cases hk : keeps d m with
   | false =>
    rw [if_neg (by simp), List.append_nil]
    exact ⟨ih1, fun x hx => by obtain ⟨i, hi, e⟩ := ih2 x hx; exact ⟨i, by omega, e⟩⟩
   | true =>
    rw [if_pos rfl]; refine ⟨List.pairwise_append.2 ⟨ih1, List.pairwise_singleton _ _, fun x hx y hy => ?_⟩, fun x hx => ?_⟩
    ·
     obtain rfl := List.mem_singleton.1 hy; obtain ⟨i, hi, rfl⟩ := ih2 x hx; have hk2 : m = 0 ∨ d[m]! ≠ d[m - 1]! := by simpa [keeps] using hk
     have hne : d[m]! ≠ d[m - 1]! := by
      rcases hk2 with e | e
      ·
       omega
      ·
       exact e
     have h1 : ltF d[m]! d[m - 1]! = false := h (m - 1) m (by omega) (by omega) (by omega); have h2 : ltF d[m - 1]! d[m]! = true := by
      rcases ltF_total hne with c | c
      ·
       rw [h1] at c; cases c
      ·
       exact c
     by_cases e : i = m - 1
     ·
      rw [e]; exact h2
     ·
      have h3 : ltF d[m - 1]! d[i]! = false := h i (m - 1) (by omega) (by omega) (by omega)
      cases h4 : ltF d[i]! d[m]! with
      | true => rfl
      | false =>
       by_cases h5 : d[i]! = d[m - 1]!
       ·
        rw [h5, h2] at h4; cases h4
       ·
        rcases ltF_total h5 with c | c
        ·
         have := ltF_trans c h2; rw [h4] at this; cases this
        ·
         rw [h3] at c; cases c
    ·
     rcases List.mem_append.1 hx with h1 | h1
     ·
      obtain ⟨i, hi, e⟩ := ih2 x h1; exact ⟨i, by omega, e⟩
     ·
      obtain rfl := List.mem_singleton.1 h1
      exact ⟨m, by omega, rfl⟩
 exact (key _ (Nat.le_refl _)).1
theorem compact_mem (d : Array F3) (x : F3) : x ∈ compactUpTo d d.size ↔ x ∈ d.toList := by
 have key : ∀ m, m ≤ d.size → (x ∈ compactUpTo d m ↔ ∃ i, i < m ∧ d[i]! = x) := by
  intro m
  induction m with
  | zero => intro _; simp [compactUpTo]
  | succ m ih =>
   intro hm; have ih := ih (by omega); rw [compactUpTo_succ, List.mem_append, ih]
   constructor
   ·
    rintro (⟨i, hi, e⟩ | h)
    ·
     exact ⟨i, by omega, e⟩
    ·
     cases hk : keeps d m with
     | false => rw [hk] at h; simp at h
     | true => rw [hk, if_pos rfl] at h; obtain rfl := List.mem_singleton.1 h; exact ⟨m, by omega, rfl⟩
   ·
    rintro ⟨i, hi, e⟩
    by_cases him : i = m
    ·
     subst him
     cases hk : keeps d i with
     | true => right; rw [if_pos rfl, e]; exact List.mem_singleton_self _
     | false =>
      left
      have hk2 : ¬ (i = 0 ∨ d[i]! ≠ d[i - 1]!) := by simpa [keeps] using hk
      have h1 : i ≠ 0 := fun h => hk2 (.inl h)
      have h2 : d[i]! = d[i - 1]! := by
       by_cases h : d[i]! = d[i - 1]!
       ·
        exact h
       ·
        exact absurd (.inr h) hk2
      exact ⟨i - 1, by omega, by rw [← h2]; exact e⟩
    ·
     exact .inl ⟨i, by omega, e⟩
 rw [key _ (Nat.le_refl _)]
 constructor
 ·
  rintro ⟨i, hi, rfl⟩; rw [getElem!_pos d i hi]
  exact Array.getElem_mem_toList hi
 ·
  intro h; obtain ⟨i, hi, e⟩ := List.mem_iff_getElem.1 h; have hi2 : i < d.size := by simpa using hi
  exact ⟨i, hi2, by rw [getElem!_pos d i hi2]; simpa using e⟩
theorem sorted_compact {d d' : Array F3} (hp : PermIn 0 d.size d d') (hs : SortedIn ltF 0 d.size d') : compactUpTo d' d'.size = rise d.toList := by
 obtain ⟨hsz, _, hperm⟩ := hp
 symm
 refine rise_of (compact_str (hsz ▸ hs)) fun x => ?_
 rw [compact_mem]; have e1 : d'.extract 0 d.size = d' := by rw [← hsz]; exact Array.extract_size
 rw [e1, Array.extract_size] at hperm
 exact hperm.mem_iff
end Go.Proofs.YtphijnkiiokieaaGreatDoor
namespace Go.Proofs.YtphijnkiiokieaaGreatDoor
open Go.RowKit
open Go.Lib hiding intOf
def GrN (w w' : World) : Prop := ∃ q os, w' = Sort.grow (w.drewN q) os
theorem GrN.refl (w : World) : GrN w w := ⟨0, #[], by simp [Sort.grow, World.drewN]⟩
theorem GrN.trans {a b c : World} (h : GrN a b) (k : GrN b c) : GrN a c := by
 obtain ⟨q, os, rfl⟩ := h; obtain ⟨q2, os2, rfl⟩ := k
 exact ⟨q + q2, os ++ os2, by simp [Sort.grow, World.drewN, Array.append_assoc, Nat.add_assoc]⟩
theorem GrN.alloc {a b : World} (h : GrN a b) (o : Obj) : GrN a (b.alloc o) := h.trans ⟨0, #[o], by rw [Sort.alloc_eq_grow]; simp [Sort.grow, World.drewN]⟩
theorem GrN.below {a b : World} (h : GrN a b) : Below a.heap.size a b := by
 obtain ⟨q, os, rfl⟩ := h; refine ⟨rfl, rfl, rfl, ?_, fun k hk => ?_⟩
 ·
  simp [Sort.grow, World.drewN]
 ·
  simp only [Sort.grow, World.drewN]; rw [Array.getElem?_append_left hk]
theorem two_boxes_g (w : World) (t : TypeId) (a b : Array Value) : GrN w ((w.alloc (.cells a t)).alloc (.cells b t)) := ((GrN.refl w).alloc _).alloc _
theorem less_grn (k l : Int) (v : ByteArray) (k2 l2 : Int) (v2 : ByteArray) (w : World) : Calls Tryz.prog 131 #[fieldV k l v, fieldV k2 l2 v2] w fun e w' => e = .returned (.bool (lessF k l v k2 l2 v2)) ∧ GrN w w' := by
 obtain ⟨r, hr⟩ : ∃ r, lessF k l v k2 l2 v2 = r := ⟨_, rfl⟩; rw [hr]; have HR := Zh (show r = if k = k2 then (if l = l2 then Op.bytesLess v.toList v2.toList else decide (l < l2)) else decide (k < k2) by rw [← hr]; rfl); clear hr
 by_cases h : k = k2
 ·
  have d : (k != k2) = false := by simpa using h
  by_cases g : l = l2
  ·
   have d2 : (l != l2) = false := by simpa using g
   have H0 := Zh (show r = Op.bytesLess v.toList v2.toList by rw [HR.out, if_pos h, if_pos g])
   go_enter Tryz.func131, Tryz.ntmps131
   go_wp2
   go_ret
   exact ⟨by rw [H0.out]; rfl, two_boxes_g _ _ _ _⟩
  ·
   have d2 : (l != l2) = true := by simpa using g
   have H0 := Zh (show r = decide (l < l2) by rw [HR.out, if_pos h, if_neg g])
   go_enter Tryz.func131, Tryz.ntmps131
   go_wp2
   go_ret
   exact ⟨by rw [H0.out]; rfl, two_boxes_g _ _ _ _⟩
 ·
  have d : (k != k2) = true := by simpa using h
  have H0 := Zh (show r = decide (k < k2) by rw [HR.out, if_neg h])
  go_enter Tryz.func131, Tryz.ntmps131
  go_wp2
  go_ret
  exact ⟨by rw [H0.out]; rfl, two_boxes_g _ _ _ _⟩
theorem order_grn (k l : Int) (v : ByteArray) (k2 l2 : Int) (v2 : ByteArray) (w : World) : Calls Tryz.prog 113 #[fieldV k l v, fieldV k2 l2 v2] w fun e w' => e = .returned (.int .i64 (ordF k l v k2 l2 v2)) ∧ GrN w w' := by
 obtain ⟨wA, hwA⟩ : ∃ wA, (w.alloc (.cells #[.int .i64 k, .int .i64 l, .string v] 92)).alloc (.cells #[.int .i64 k2, .int .i64 l2, .string v2] 92) = wA := ⟨_, rfl⟩; obtain ⟨n, hn⟩ : ∃ n, w.heap.size = n := ⟨_, rfl⟩; have HB1 := Zh (show Blk wA n 92 #[.int .i64 k, .int .i64 l, .string v] from hwA ▸ hn ▸ (Blk.new w _ _).alloc _); have HB2 := Zh (show Blk wA (n + 1) 92 #[.int .i64 k2, .int .i64 l2, .string v2] from by
  have := Blk.new (w.alloc (.cells #[.int .i64 k, .int .i64 l, .string v] 92)) 92 #[.int .i64 k2, .int .i64 l2, .string v2]; rw [World.size_alloc, hwA, hn] at this
  exact this)
 have HW := Zh (show GrN w wA from hwA ▸ two_boxes_g w 92 _ _); have HWb := Zh (show Below n w wA from hn ▸ HW.out.below); have HN := Zh hn; have a0 : wA.cell? ⟨n, 0, none⟩ = some (.int .i64 k) := HB1.out.cell 0; have a1 : wA.cell? ⟨n, 1, none⟩ = some (.int .i64 l) := HB1.out.cell 1; have a2 : wA.cell? ⟨n, 2, none⟩ = some (.string v) := HB1.out.cell 2; have b0 : wA.cell? ⟨n + 1, 0, none⟩ = some (.int .i64 k2) := HB2.out.cell 0; have b1 : wA.cell? ⟨n + 1, 1, none⟩ = some (.int .i64 l2) := HB2.out.cell 1; have b2 : wA.cell? ⟨n + 1, 2, none⟩ = some (.string v2) := HB2.out.cell 2; obtain ⟨r1, hr1⟩ : ∃ r, lessF k l v k2 l2 v2 = r := ⟨_, rfl⟩; obtain ⟨r2, hr2⟩ : ∃ r, lessF k2 l2 v2 k l v = r := ⟨_, rfl⟩; have HO := Zh (show ordF k l v k2 l2 v2 = if r1 = true then -1 else if r2 = true then 1 else 0 from by unfold ordF; rw [hr1, hr2]); have HL1 := Zh (less_grn k l v k2 l2 v2 wA); have HL2 := Zh (fun W => less_grn k2 l2 v2 k l v W); rw [hr1] at HL1; rw [hr2] at HL2; rw [HO.out]; clear hr1 hr2
 go_enter Tryz.func113, Tryz.ntmps113
 go_wp2_with fail
 refine HL1.out.mono ?_; rintro _ w1 ⟨rfl, hg⟩; have hb := hg.below; have HX1 := Zh (HB1.out.below hb HB1.out.lt); have HX2 := Zh (HB2.out.below hb HB2.out.lt); have HW1 := Zh (HW.out.trans hg); clear hb hg a0 a1 a2 b0 b1 b2 hwA
 cases r1 with
 | true =>
  go_wp2
  go_ret
  exact ⟨rfl, HW1.out⟩
 | false =>
  have a0 : w1.cell? ⟨n, 0, none⟩ = some (.int .i64 k) := HX1.out.cell 0; have a1 : w1.cell? ⟨n, 1, none⟩ = some (.int .i64 l) := HX1.out.cell 1; have a2 : w1.cell? ⟨n, 2, none⟩ = some (.string v) := HX1.out.cell 2; have b0 : w1.cell? ⟨n + 1, 0, none⟩ = some (.int .i64 k2) := HX2.out.cell 0; have b1 : w1.cell? ⟨n + 1, 1, none⟩ = some (.int .i64 l2) := HX2.out.cell 1; have b2 : w1.cell? ⟨n + 1, 2, none⟩ = some (.string v2) := HX2.out.cell 2
  go_wp2_with fail
  refine (HL2.out w1).mono ?_; rintro _ w2 ⟨rfl, hg⟩; have HW2 := Zh (HW1.out.trans hg); clear hg
  cases r2 <;> (
   go_wp2
   go_ret
   exact ⟨by first | rfl | simp, HW2.out⟩)
end Go.Proofs.YtphijnkiiokieaaGreatDoor
namespace Go.Proofs.YtphijnkiiokieaaGreatDoor
open Go.RowKit
theorem puts_any (B b : Nat) (bs : List Value) (s : ByteArray) (w : World) (h : Lib.IsBuilder 122 5 B b bs w) (hlen : bs.length + s.size ≤ 140737488355328) (hBw : B ≤ w.heap.size) :
  Calls Tryz.prog 116 #[.pointer (some ⟨b, 0, none⟩), .string s] w fun e w' => e = .returned (.tuple #[.int .i64 s.size, .nilIface]) ∧ (Lib.IsBuilder 122 5 B b (bs ++ Lib.strCells s) w' ∧ Below B w w') := by
 obtain ⟨i0, hi, hz0, hz1, hz2⟩ := info_of info5
 go_enter Tryz.func116, Tryz.ntmps116
 go_wp2_with (go_at_call 132; refine (copy_any B b bs _ h).mono ?_)
 rintro e w1 ⟨rfl, h1, hb1⟩; obtain ⟨hB, v, hbk, hown, hne⟩ := h1; have c0 : w1.cell? ⟨b, 0, none⟩ = some (.pointer (some ⟨b, 0, none⟩)) := by rw [Lib.cell_of_heap hbk]; rfl
 have c1 : w1.cell? ⟨b, 1, none⟩ = some v := by rw [Lib.cell_of_heap hbk]; rfl
 go_wp2_with (at_builtin; refine Lib.wpList_append_own_string _ rfl _ _ 27 9 rfl B 5 i0 Tryz.underlying27 Tryz.underlying9 hi hz0 hz1 hz2 _ _ _ rfl hown s rfl ?c3 ?c4 ?c5 ?_)
 case c3 => unfold maxLen; omega
 case c4 => omega
 case c5 => have := hb1.size; omega
 intro v' w2 hown' hgrow _; have hlt : b < w1.heap.size := by
  rcases Nat.lt_or_ge b w1.heap.size with h' | h'
  ·
   exact h'
  ·
   simp [Array.getElem?_eq_none h'] at hbk
 have hb2 : w2.heap[b]? = some (.cells #[.pointer (some ⟨b, 0, none⟩), v] 122 (0, 0)) := by
  rw [hgrow.block b hlt (fun e => hne e.symm)]
  exact hbk
 have d0 : w2.cell? ⟨b, 0, none⟩ = some (.pointer (some ⟨b, 0, none⟩)) := by rw [Lib.cell_of_heap hb2]; rfl
 have d1 : w2.cell? ⟨b, 1, none⟩ = some v := by rw [Lib.cell_of_heap hb2]; rfl
 have f1 : w2.frozen? ⟨b, 1, none⟩ = false := Lib.frozen_of_heap hb2 1; obtain ⟨ao, n', cap, rfl⟩ : ∃ ao n' cap, v' = .slice ao n' cap := by
  rcases hown'.2 with ⟨hv, _⟩ | ⟨g, cap, cur, hv, _⟩
  ·
   exact ⟨_, _, _, hv⟩
  ·
   exact ⟨_, _, _, hv⟩
 go_wp2
 go_ret2
 refine ⟨rfl, .inr ?_, ?_⟩
 ·
  exact Lib.BuilderAt.put (T := 122) (e := 5) hB hb2 (bs' := bs ++ Lib.strCells s) (by simpa [Lib.strCells_length] using hown') (by decide)
 ·
  exact (hb1.grown hgrow (by have := hb1.size; omega) (fun k hk => (hown.lt k hk).1)).setCell (p := ⟨b, 1, none⟩) hB _
end Go.Proofs.YtphijnkiiokieaaGreatDoor
namespace Go.Proofs.YtphijnkiiokieaaGreatDoor
open Go.RowKit
open Go.Lib hiding intOf
def lnB (f : F3) : List UInt8 := (lineF f.1 f.2.1 f.2.2).data.toList ++ [10]
def lnL (L : List F3) (i : Nat) : List UInt8 := ((L.take i).map lnB).flatten
theorem lnL_step {L : List F3} {i : Nat} {f : F3} (h : L[i]? = some f) : lnL L (i + 1) = (lnL L i ++ (lineF f.1 f.2.1 f.2.2).data.toList) ++ [10] := by
 unfold lnL
 rw [List.take_add_one, h, List.map_append, List.flatten_append, List.append_assoc]
 simp [lnB]
theorem line_size (k l : Int) (v : ByteArray) : (lineF k l v).size ≤ 10 + v.size := by
 unfold lineF
 split
 ·
  have h := head_size k l; have y : (⟨#[58]⟩ : ByteArray).size = 1 := rfl; rw [ByteArray.size_append, ByteArray.size_append, y]
  omega
 ·
  show 0 ≤ _
  omega
theorem lnL_size {C : Nat} {L : List F3} (h : ∀ f ∈ L, f.2.2.size + 11 ≤ C) : ∀ i, (lnL L i).length ≤ i * C
 | 0 => by simp [lnL]
 | i + 1 => by
  have ih := lnL_size h i; have e : (i + 1) * C = i * C + C := Nat.succ_mul i C; rw [e]
  cases hf : L[i]? with
  | none =>
   have : lnL L (i + 1) = lnL L i := by unfold lnL; rw [List.take_add_one, hf]; simp
   rw [this]
   omega
  | some f =>
   have h1 := line_size f.1 f.2.1 f.2.2; have h2 := h f (List.mem_of_getElem? hf); have h3 : (lineF f.1 f.2.1 f.2.2).data.toList.length = (lineF f.1 f.2.1 f.2.2).size := by rw [Array.length_toList]; rfl
   rw [lnL_step hf, List.length_append, List.length_append, h3]; simp only [List.length_cons, List.length_nil]
   omega
theorem bcs_app (l m : List UInt8) : Lib.byteCells (l ++ m) = Lib.byteCells l ++ Lib.byteCells m := by simp [Lib.byteCells]
theorem ba_below {B b : Nat} {p : Value} {bs : List Value} {W W' : World} (h : Lib.BuilderAt 122 5 B b p bs W) (hb : Below W.heap.size W W') : Lib.BuilderAt 122 5 B b p bs W' := by
 obtain ⟨hB, v, hbk, hown, hne⟩ := h; refine ⟨hB, v, (hb.block b (Array.getElem?_eq_some_iff.1 hbk).1).trans hbk, ?_, hne⟩; obtain ⟨h0, h3 | ⟨g, cap, cur, rfl, e2, e3, e4⟩⟩ := hown
 ·
  exact ⟨h0, .inl h3⟩
 ·
  exact ⟨h0, .inr ⟨g, cap, cur, rfl, e2, (hb.block g (Array.getElem?_eq_some_iff.1 e3).1).trans e3, e4⟩⟩
theorem ib_below {B b : Nat} {bs : List Value} {W W' : World} (h : Lib.IsBuilder 122 5 B b bs W) (hb : Below W.heap.size W W') : Lib.IsBuilder 122 5 B b bs W' :=
 h.imp (fun h => ba_below h hb) (fun h => ba_below h hb)
theorem lines_any {w : World} {A : Option Addr} {cap b off : Nat} {L : List F3} (h : Fv w A cap b off L) (hn : L.length ≤ 1000) (hv : ∀ f ∈ L, f.2.2.size ≤ 1000000) (hT : Tabs w) (hM : Mx w) (hD : Day.Tab w.heap.size w) :
  Calls Tryz.prog 102 #[.slice A L.length cap] w fun e w' => e = .returned (.string ⟨(lnL L L.length).toArray⟩) ∧ Below w.heap.size w w' := by
 obtain ⟨B, hB⟩ : ∃ B, w.heap.size = B := ⟨_, rfl⟩; have HBW := Zh hB; have H := Zh h; have HV := Zh hv; have HT := Zh hT; have HMX := Zh hM; have HD := Zh hD; have HSZ := Zh (lnL_size (C := 1000011) (L := L) (fun f hf => by have := hv f hf; omega)); obtain ⟨n, hnn⟩ : ∃ n, L.length = n := ⟨_, rfl⟩; have HN := Zh hnn; rw [hnn] at hn ⊢; obtain ⟨res, hres⟩ : ∃ res : ByteArray, (⟨(lnL L n).toArray⟩ : ByteArray) = res := ⟨_, rfl⟩; have HR := Zh hres; rw [hres]; have hnI : (n : Int) ≤ 1000 := by omega
 have HF := Zh (Lib.fresh_isBuilder 122 5 w); have HB0 := Zh ((Below.refl w.heap.size w).alloc (Nat.le_refl _) (.cells #[.pointer none, .slice none 0 0] 122)); rw [hB] at HF HB0; clear h hv hT hM hD hnn hres hB
 go_enter Tryz.func102, Tryz.ntmps102
 go_wp2
 rw [HBW.out]; obtain ⟨W1, hW1⟩ : ∃ W1, w.alloc (.cells #[.pointer none, .slice none 0 0] 122) = W1 := ⟨_, rfl⟩; simp only [hW1] at HF HB0 ⊢; clear hW1
 go_loopw [8] (fun i wr => ∃ q : Nat, q ≤ n ∧ i = .int .i64 (q : Int) ∧ Lib.IsBuilder 122 5 B B (Lib.byteCells (lnL L q)) wr ∧ Below B w wr) (fun i _ => n - (intOf i).toNat)
 case atStart => exact ⟨0, Nat.zero_le _, rfl, HF.out, HB0.out⟩
 case round =>
  obtain ⟨q, hq, rfl, hi, hb⟩ := hrel; have HI := Zh hi; have HB := Zh hb; have HBs := Zh (show B ≤ wr.heap.size by have h1 := hb.size; have h2 := HBW.out; omega); clear hi hb
  by_cases hql : q < n
  ·
   obtain ⟨f, hf⟩ : ∃ f, L[q]? = some f := ⟨L[q]'(by rw [HN.out]; exact hql), List.getElem?_eq_getElem _⟩; obtain ⟨rfl, hbl, c0, c1, c2⟩ := (H.out.below (HBW.out ▸ HB.out)).2 q f hf; have HST := Zh (lnL_step hf); have HVF := Zh (HV.out f (List.mem_of_getElem? hf)); obtain ⟨f1, f2, f3⟩ := f; simp only at c0 c1 c2 HST HVF; have hqI : (q : Int) < (n : Int) := by omega
   obtain ⟨n9, hn9⟩ : ∃ n, wr.heap.size = n := ⟨_, rfl⟩; obtain ⟨W1, hW1⟩ : ∃ W1, wr.alloc (.cells #[.int .i64 0, .int .i64 0, .string { data := #[] }] 92) = W1 := ⟨_, rfl⟩; have HC1 := Zh (show Below wr.heap.size wr W1 from hW1 ▸ (Below.refl _ wr).alloc (Nat.le_refl _) _); have HY1 := Zh (show Blk W1 n9 92 #[.int .i64 0, .int .i64 0, .string .empty] from hn9 ▸ hW1 ▸ Blk.new wr 92 _); have y0 := HY1.out.cell 0; have y1 := HY1.out.cell 1; have y2 := HY1.out.cell 2; have g0 := HY1.out.frozen 0; have g1 := HY1.out.frozen 1; have g2 := HY1.out.frozen 2; obtain ⟨w2, hw2⟩ : ∃ w2, ((W1.setCell ⟨n9, 0, none⟩ (.int .i64 f1)).setCell ⟨n9, 1, none⟩ (.int .i64 f2)).setCell ⟨n9, 2, none⟩ (.string f3) = w2 := ⟨_, rfl⟩; have HB2 := Zh (show Blk w2 n9 92 #[.int .i64 f1, .int .i64 f2, .string f3] from hw2 ▸ (((HY1.out.set_ 0 _).set_ 1 _).set_ 2 _)); have HC2 := Zh (show Below n9 wr w2 from hw2 ▸ (((((HC1.out.mono (Nat.le_of_eq hn9.symm)).setCell (p := ⟨n9, 0, none⟩) (Nat.le_refl _) _).setCell (p := ⟨n9, 1, none⟩) (Nat.le_refl _) _).setCell (p := ⟨n9, 2, none⟩) (Nat.le_refl _) _))); have HW2 := Zh (show Below B w w2 from HB.out.trans (HC2.out.mono (by have := HBs.out; omega))); have HI2 := Zh (ib_below HI.out (hn9 ▸ HC2.out)); have HWw := Zh (show Below w.heap.size w w2 from HBW.out ▸ HW2.out); have HL := Zh (fline_any f1 f2 f3 HVF.out w2 (tabs_on HT.out HWw.out (tabs_size HT.out)) (HMX.out.keep HWw.out HMX.out.lt) (Day.tab_on HD.out HWw.out)); have HLS := Zh (line_size f1 f2 f3); have HS9 := Zh (show (lnL L q).length ≤ 1001000000 from by have h1 := HSZ.out q; have h2 : q * 1000011 ≤ 1000 * 1000011 := Nat.mul_le_mul_right _ (by omega); omega); obtain ⟨ln, hln⟩ : ∃ ln, lineF f1 f2 f3 = ln := ⟨_, rfl⟩; obtain ⟨pre, hpre⟩ : ∃ pre, lnL L q = pre := ⟨_, rfl⟩; rw [hln] at HL HLS HST; rw [hpre] at HI2 HS9 HST; have z0 : w2.cell? ⟨n9, 0, none⟩ = some (.int .i64 f1) := HB2.out.cell 0; have z1 : w2.cell? ⟨n9, 1, none⟩ = some (.int .i64 f2) := HB2.out.cell 1; have z2 : w2.cell? ⟨n9, 2, none⟩ = some (.string f3) := HB2.out.cell 2; clear hf hbl hln hpre HI
   go_wp2_with fail
   try rw [hw2]
   clear hw2 y0 y1 y2 g0 g1 g2 hW1 c0 c1 c2
   go_wp2_with fail
   refine HL.out.mono ?_; rintro _ w3 ⟨rfl, hb⟩; have HI3 := Zh (ib_below HI2.out hb); have HW3 := Zh (HW2.out.trans (hb.mono (by have h1 := HW2.out.size; have h2 := HBW.out; omega))); have HS3 := Zh (show B ≤ w3.heap.size from by have h1 := HW3.out.size; have h2 := HBW.out; omega); clear hb z0 z1 z2
   go_wp2_with fail
   refine (puts_any B B _ ln w3 HI3.out (by rw [bc_len]; have h1 := HS9.out; have h2 := HLS.out; have h3 := HVF.out; omega) HS3.out).mono ?_; rintro _ w4 ⟨rfl, h4, hb⟩; have HI4 := Zh (show Lib.IsBuilder 122 5 B B (Lib.byteCells (pre ++ ln.data.toList)) w4 from by rw [bcs_app]; exact h4); have HW4 := Zh (HW3.out.trans hb); have HS4 := Zh (Nat.le_trans HS3.out hb.size); have HL4 := Zh (show (pre ++ ln.data.toList).length ≤ 1002100000 from by
    have h1 := HS9.out; have h2 := HLS.out; have h3 := HVF.out; have h5 : ln.data.toList.length = ln.size := by rw [Array.length_toList]; rfl
    rw [List.length_append, h5]
    omega)
   clear h4 hb
   go_wp2_with fail
   refine (put_any B B _ 10 w4 HI4.out (by rw [bc_len]; have := HL4.out; omega) HS4.out).mono ?_; rintro _ w5 ⟨rfl, h5, hb⟩; have HI5 := Zh (show Lib.IsBuilder 122 5 B B (Lib.byteCells (lnL L (q + 1))) w5 from by rw [HST.out, bcs_app _ [10]]; exact h5); have HW5 := Zh (HW4.out.trans hb); clear h5 hb
   go_wp2_with fail
   go_roundw
   case rel => exact ⟨q + 1, by omega, by go_num, HI5.out, HW5.out⟩
   case measure => simp [intOf]; omega
  ·
   obtain rfl : q = n := by omega
   have HS := Zh (Tryz.Builder_String_any B B (lnL L q) wr HI.out HBs.out); rw [HR.out] at HS; clear hql
   go_wp2_with fail
   refine HS.out.mono ?_; rintro _ w2 ⟨rfl, hb⟩; have HB2 := Zh (HB.out.trans hb); clear hb
   go_wp2
   go_ret
   exact ⟨rfl, HBW.out ▸ HB2.out⟩
def cn1 (f : F3) : F3 × Int := if (kindW f.1).toList.isEmpty = true ∨ labelledB f.1 f.2.1 = false then ((0, 0, ⟨#[]⟩), 1) else if (valueS f.1 f.2.2).2 = 0 then ((f.1, f.2.1, (valueS f.1 f.2.2).1), 0) else ((0, 0, ⟨#[]⟩), (valueS f.1 f.2.2).2)
theorem canon_cn1 (f : F3) : canonV f.1 f.2.1 f.2.2 = .tuple #[fV (cn1 f).1, .int .i64 (cn1 f).2] := by
 unfold canonV cn1 fV
 split
 ·
  rfl
 ·
  split
  ·
   rfl
  ·
   rfl
def errL : List F3 → Int
 | [] => 0
 | f :: L => if (cn1 f).2 = 0 then errL L else (cn1 f).2
def encF (f : F3) : List Value := [.int .i64 f.1, .int .i64 f.2.1, .string f.2.2]
def encL (L : List F3) : List Value := (L.map encF).flatten
theorem encL_snoc (L : List F3) (f : F3) : encL (L ++ [f]) = encL L ++ encF f := by unfold encL; simp
def cnL (L : List F3) (q : Nat) : List F3 := (L.take q).map fun f => (cn1 f).1
theorem cnL_step {L : List F3} {q : Nat} {f : F3} (h : L[q]? = some f) : cnL L (q + 1) = cnL L q ++ [(cn1 f).1] := by
 unfold cnL
 rw [List.take_add_one, h, List.map_append]
 rfl
theorem errL_drop {L : List F3} {q : Nat} {f : F3} (h : L[q]? = some f) : errL (L.drop q) = if (cn1 f).2 = 0 then errL (L.drop (q + 1)) else (cn1 f).2 := by
 have hl := (List.getElem?_eq_some_iff.1 h).1; have he := (List.getElem?_eq_some_iff.1 h).2; rw [List.drop_eq_getElem_cons hl, he]
 rfl
theorem info36 : (Tryz.prog.info? 92).map (fun i => (i.zero, i.size, i.bytes)) = some (some (.agg #[.int .i64 0, .int .i64 0, .string ⟨#[]⟩]), 3, 32) := by kernel_rfl
def Fr3 (w : World) (B : Nat) (V : Value) (n : Nat) (L : List F3) : Prop := w.ownsRow B 92 3 V n (encL L)
theorem fr3_push {P : Program} {ops : Array Oper} {rest : List Oper} {o : Oper} {a : Act} {Q : Exit → Act → World → Prop} (w : World) (hgd : o.guard = none) (s x : Operand) (t : TypeId)
  (ho : o.op = .call { callee := .builtin .append, args := #[s, x], argTypes := #[t, t] }) (ht : P.underlying t = some (.slice 92)) (hinf : (P.info? 92).map (fun i => (i.zero, i.size, i.bytes)) = some (some (.agg #[.int .i64 0, .int .i64 0, .string ⟨#[]⟩]), 3, 32))
  (B : Nat) (V : Value) (n : Nat) (L : List F3) (hs : a.eval s = V) (h : Fr3 w B V n L) (g : Nat) (f : F3) (hx : a.eval x = .slice (some ⟨g, 0, none⟩) 1 1) (hb : Blk w g 92 #[.int .i64 f.1, .int .i64 f.2.1, .string f.2.2]) (hn : n ≤ 1000000) (hB : B ≤ w.heap.size)
  (hK : ∀ V' w', Fr3 w' B V' (n + 1) (L ++ [f]) → w.grownBy w' V.ownBlock → wpList P ops Q rest (a.put o.dst V') w') : wpList P ops Q (o :: rest) a w := by
 obtain ⟨i, hi, hz, hsz, hby⟩ := info_of hinf; refine wpList_append_own _ hgd s x t ho B 92 i _ 3 32 ht hi hz hsz hby rfl (by decide) V n (encL L) hs h ⟨g, 0, none⟩ 1 1 (encF f) hx rfl ?c1 ?c2 ?c3 ?c4 ?c5 ?_
 case c1 => exact World.news_of_block (cs := #[.int .i64 f.1, .int .i64 f.2.1, .string f.2.2]) (t := 92) (fr := (0, 0)) hb
 case c2 =>
  intro y hy
  unfold encF at hy
  simp at hy
  rcases hy with rfl | rfl | rfl <;> rfl
 case c3 => unfold maxLen; omega
 case c4 => omega
 case c5 => exact hB
 intro v' w' h1 h2 _; refine hK v' w' ?_ h2
 unfold Fr3
 rw [encL_snoc]
 exact h1
theorem canonFields_any {w : World} {A : Option Addr} {cap b off : Nat} {L : List F3} (h : Fv w A cap b off L) (hn : L.length ≤ 1000) (hv : ∀ f ∈ L, f.2.2.size ≤ 1000000) (hT : Tabs w) (hM : Mx w) (hD : Day.Tab w.heap.size w) :
  Calls Tryz.prog 111 #[.slice A L.length cap] w fun e w' => Below w.heap.size w w' ∧ ((errL L = 0 ∧ ∃ V, e = .returned (.tuple #[V, .int .i64 0]) ∧ Fr3 w' w.heap.size V L.length (cnL L L.length)) ∨ (errL L ≠ 0 ∧ e = .returned (.tuple #[.slice none 0 0, .int .i64 (errL L)]))) := by
 obtain ⟨B, hB⟩ : ∃ B, w.heap.size = B := ⟨_, rfl⟩; have HBW := Zh hB; have H := Zh h; have HV := Zh hv; have HT := Zh hT; have HMX := Zh hM; have HD := Zh hD; obtain ⟨n, hnn⟩ : ∃ n, L.length = n := ⟨_, rfl⟩; have HN := Zh hnn; rw [hnn] at hn ⊢; obtain ⟨er, her⟩ : ∃ er, errL L = er := ⟨_, rfl⟩; have HER := Zh her; rw [her]; have hnI : (n : Int) ≤ 1000 := by omega
 rw [hB]; clear h hv hT hM hD hnn hB her
 go_enter Tryz.func111, Tryz.ntmps111
 go_wp2
 go_loopw [4, 11] (fun t i wr => ∃ q : Nat, q ≤ n ∧ Fr3 wr B t q (cnL L q) ∧ i = .int .i64 (q : Int) ∧ errL (L.drop q) = er ∧ Below B w wr) (fun _ i _ => n - (intOf i).toNat)
 case atStart => exact ⟨0, Nat.zero_le _, ⟨rfl, .inl ⟨rfl, rfl⟩⟩, rfl, HER.out, HBW.out ▸ Below.refl _ _⟩
 case round =>
  obtain ⟨q, hq, hrow, rfl, hed, hb⟩ := hrel; have HROW := Zh hrow; have HED := Zh hed; have HB := Zh hb; have HBs := Zh (show B ≤ wr.heap.size by have h1 := hb.size; have h2 := HBW.out; omega); clear hrow hed hb
  by_cases hql : q < n
  ·
   obtain ⟨f, hf⟩ : ∃ f, L[q]? = some f := ⟨L[q]'(by rw [HN.out]; exact hql), List.getElem?_eq_getElem _⟩; obtain ⟨rfl, hbl, c0, c1, c2⟩ := (H.out.below (HBW.out ▸ HB.out)).2 q f hf; have HVF := Zh (HV.out f (List.mem_of_getElem? hf)); have HCN := Zh (canon_cn1 f); have HST := Zh (cnL_step hf); have HDR := Zh (errL_drop hf); rw [HED.out] at HDR; obtain ⟨⟨⟨d1, d2, d3⟩, de⟩, hcn⟩ : ∃ p, cn1 f = p := ⟨_, rfl⟩; rw [hcn] at HCN HST HDR; obtain ⟨f1, f2, f3⟩ := f; simp only at c0 c1 c2 HVF HCN HST HDR; have hqI : (q : Int) < (n : Int) := by omega
   obtain ⟨n9, hn9⟩ : ∃ n, wr.heap.size = n := ⟨_, rfl⟩; obtain ⟨W1, hW1⟩ : ∃ W1, wr.alloc (.cells #[.int .i64 0, .int .i64 0, .string { data := #[] }] 92) = W1 := ⟨_, rfl⟩; have HC1 := Zh (show Below wr.heap.size wr W1 from hW1 ▸ (Below.refl _ wr).alloc (Nat.le_refl _) _); have HY1 := Zh (show Blk W1 n9 92 #[.int .i64 0, .int .i64 0, .string .empty] from hn9 ▸ hW1 ▸ Blk.new wr 92 _); have y0 := HY1.out.cell 0; have y1 := HY1.out.cell 1; have y2 := HY1.out.cell 2; have g0 := HY1.out.frozen 0; have g1 := HY1.out.frozen 1; have g2 := HY1.out.frozen 2; obtain ⟨w2, hw2⟩ : ∃ w2, ((W1.setCell ⟨n9, 0, none⟩ (.int .i64 f1)).setCell ⟨n9, 1, none⟩ (.int .i64 f2)).setCell ⟨n9, 2, none⟩ (.string f3) = w2 := ⟨_, rfl⟩; have HB2 := Zh (show Blk w2 n9 92 #[.int .i64 f1, .int .i64 f2, .string f3] from hw2 ▸ (((HY1.out.set_ 0 _).set_ 1 _).set_ 2 _)); have HC2 := Zh (show Below n9 wr w2 from hw2 ▸ (((((HC1.out.mono (Nat.le_of_eq hn9.symm)).setCell (p := ⟨n9, 0, none⟩) (Nat.le_refl _) _).setCell (p := ⟨n9, 1, none⟩) (Nat.le_refl _) _).setCell (p := ⟨n9, 2, none⟩) (Nat.le_refl _) _))); have HW2 := Zh (show Below B w w2 from HB.out.trans (HC2.out.mono (by have := HBs.out; omega))); have HWw := Zh (show Below w.heap.size w w2 from HBW.out ▸ HW2.out); have HC := Zh (fcanon_any f1 f2 f3 HVF.out w2 (tabs_on HT.out HWw.out (tabs_size HT.out)) (HMX.out.keep HWw.out HMX.out.lt) (Day.tab_on HD.out HWw.out)); rw [HCN.out] at HC; simp only [fV] at HC; have HO2 := Zh (show w2.ownsRow B 92 3 _ q (encL (cnL L q)) from by
    obtain ⟨h0, h3 | ⟨g, cap', cur, e1, e2, e3, e4⟩⟩ := HROW.out
    ·
     exact ⟨h0, .inl h3⟩
    ·
     exact ⟨h0, .inr ⟨g, cap', cur, e1, e2, (HC2.out.block g (by have := (Array.getElem?_eq_some_iff.1 e3).1; omega)).trans e3, e4⟩⟩)
   have z0 : w2.cell? ⟨n9, 0, none⟩ = some (.int .i64 f1) := HB2.out.cell 0; have z1 : w2.cell? ⟨n9, 1, none⟩ = some (.int .i64 f2) := HB2.out.cell 1; have z2 : w2.cell? ⟨n9, 2, none⟩ = some (.string f3) := HB2.out.cell 2; clear hf hbl hcn
   go_wp2_with fail
   try rw [hw2]
   clear hw2 y0 y1 y2 g0 g1 g2 hW1 c0 c1 c2
   go_wp2_with fail
   refine HC.out.mono ?_; rintro _ w3 ⟨rfl, hb⟩; obtain ⟨m9, hm9⟩ : ∃ n, w3.heap.size = n := ⟨_, rfl⟩; have HW3 := Zh (HW2.out.trans (hb.mono (by have h1 := HW2.out.size; have h2 := HBW.out; omega))); have HO3 := Zh (show w3.ownsRow B 92 3 _ q (encL (cnL L q)) from by
    obtain ⟨h0, h3 | ⟨g, cap', cur, e1, e2, e3, e4⟩⟩ := HO2.out
    ·
     exact ⟨h0, .inl h3⟩
    ·
     exact ⟨h0, .inr ⟨g, cap', cur, e1, e2, (hb.block g (Array.getElem?_eq_some_iff.1 e3).1).trans e3, e4⟩⟩)
   obtain ⟨W4, hW4⟩ : ∃ W4, w3.alloc (.cells #[.int .i64 0, .int .i64 0, .string { data := #[] }] 92) = W4 := ⟨_, rfl⟩; have HC4 := Zh (show Below w3.heap.size w3 W4 from hW4 ▸ (Below.refl _ w3).alloc (Nat.le_refl _) _); have HY4 := Zh (show Blk W4 m9 92 #[.int .i64 0, .int .i64 0, .string .empty] from hm9 ▸ hW4 ▸ Blk.new w3 92 _); have y0 := HY4.out.cell 0; have y1 := HY4.out.cell 1; have y2 := HY4.out.cell 2; have g0 := HY4.out.frozen 0; have g1 := HY4.out.frozen 1; have g2 := HY4.out.frozen 2; obtain ⟨w5, hw5⟩ : ∃ w5, ((W4.setCell ⟨m9, 0, none⟩ (.int .i64 d1)).setCell ⟨m9, 1, none⟩ (.int .i64 d2)).setCell ⟨m9, 2, none⟩ (.string d3) = w5 := ⟨_, rfl⟩; have HB5 := Zh (show Blk w5 m9 92 #[.int .i64 d1, .int .i64 d2, .string d3] from hw5 ▸ (((HY4.out.set_ 0 _).set_ 1 _).set_ 2 _)); have HC5 := Zh (show Below m9 w3 w5 from hw5 ▸ (((((HC4.out.mono (Nat.le_of_eq hm9.symm)).setCell (p := ⟨m9, 0, none⟩) (Nat.le_refl _) _).setCell (p := ⟨m9, 1, none⟩) (Nat.le_refl _) _).setCell (p := ⟨m9, 2, none⟩) (Nat.le_refl _) _))); have HS3 := Zh (show B ≤ m9 from by have h1 := HW3.out.size; have h2 := HBW.out; omega); have HW5 := Zh (show Below B w w5 from HW3.out.trans (HC5.out.mono HS3.out)); have HO5 := Zh (show w5.ownsRow B 92 3 _ q (encL (cnL L q)) from by
    obtain ⟨h0, h3 | ⟨g, cap', cur, e1, e2, e3, e4⟩⟩ := HO3.out
    ·
     exact ⟨h0, .inl h3⟩
    ·
     exact ⟨h0, .inr ⟨g, cap', cur, e1, e2, (HC5.out.block g (by have := (Array.getElem?_eq_some_iff.1 e3).1; omega)).trans e3, e4⟩⟩)
   have z0 : w5.cell? ⟨m9, 0, none⟩ = some (.int .i64 d1) := HB5.out.cell 0; have z1 : w5.cell? ⟨m9, 1, none⟩ = some (.int .i64 d2) := HB5.out.cell 1; have z2 : w5.cell? ⟨m9, 2, none⟩ = some (.string d3) := HB5.out.cell 2; clear hb HO2 HC
   by_cases hde : de = 0
   ·
    have hdb : (de != 0) = false := by simpa using hde
    have HDR2 := Zh (show errL (L.drop (q + 1)) = er from by have := HDR.out; rw [if_pos hde] at this; exact this.symm); have HS5 := Zh (show B ≤ w5.heap.size from by have h1 := HW5.out.size; have h2 := HBW.out; omega); clear hde; obtain ⟨w6, hw6⟩ : ∃ w6, w5.alloc (.cells #[.int .i64 d1, .int .i64 d2, .string d3] 92) = w6 := ⟨_, rfl⟩; have HB6 := Zh (show Blk w6 w5.heap.size 92 #[.int .i64 d1, .int .i64 d2, .string d3] from hw6 ▸ Blk.new w5 92 _); have HO6 := Zh (show Fr3 w6 B _ q (cnL L q) from hw6 ▸ World.ownsRow.alloc HO5.out _); have HW6 := Zh (show Below B w w6 from hw6 ▸ HW5.out.alloc HS5.out _); have HS6 := Zh (show B ≤ w6.heap.size from by have h1 := HW6.out.size; have h2 := HBW.out; omega)
    go_wp2_with (first
     | (at_builtin; (try rw [hw5]); (try rw [hw6]); go_must (refine fr3_push _ rfl (.tmp 23) (.tmp 25) 85 rfl Tryz.underlying85 info36 B _ q (cnL L q) rfl HO6.out w5.heap.size (d1, d2, d3) rfl HB6.out (by omega) HS6.out ?_))
     | fail)
    intro V' w7 hown hgr; have HO7 := Zh hown; have HW7 := Zh (HW6.out.grown hgr HS6.out (fun j e => (HO6.out.lt j e).1)); clear hown hgr hw6 hw5 y0 y1 y2 g0 g1 g2 hW4
    go_wp2_with fail
    go_roundw
    case rel => exact ⟨q + 1, by omega, by rw [HST.out]; exact HO7.out, by go_num, HDR2.out, HW7.out⟩
    case measure => simp [intOf]; omega
   ·
    have hdb : (de != 0) = true := by simpa using hde
    have HDR2 := Zh (show er = de from by have := HDR.out; rw [if_neg hde] at this; exact this)
    go_wp2_with fail
    try rw [hw5]
    clear hw5 y0 y1 y2 g0 g1 g2 hW4
    go_wp2
    go_ret2
    exact ⟨HW5.out, .inr ⟨by rw [HDR2.out]; exact hde, by rw [HDR2.out]; rfl⟩⟩
  ·
   obtain rfl : q = n := by omega
   have HZ := Zh (show er = 0 from by rw [← HED.out, ← HN.out, List.drop_length]; rfl); clear hql
   go_wp2
   go_ret2
   exact ⟨HB.out, .inl ⟨HZ.out, _, rfl, HROW.out⟩⟩
end Go.Proofs.YtphijnkiiokieaaGreatDoor
namespace Go.Proofs.YtphijnkiiokieaaGreatDoor
open Go.RowKit
open Go.Lib hiding intOf
open Go.Sort Go.Proofs
theorem encL_get : ∀ (L : List F3) (t : Nat), (encL L)[t]? = match L[t / 3]? with | some f => (encF f)[t % 3]? | none => none
 | [], t => by simp [encL]
 | a :: L, t => by
  have e : encL (a :: L) = encF a ++ encL L := by unfold encL; simp
  rw [e]
  by_cases h : t < 3
  ·
   have h1 : t / 3 = 0 := by omega
   have h2 : t % 3 = t := by omega
   rw [h1, h2, List.getElem?_append_left (by show t < 3; exact h)]
   rfl
  ·
   obtain ⟨s, rfl⟩ : ∃ s, t = s + 3 := ⟨t - 3, by omega⟩; have h1 : (s + 3) / 3 = s / 3 + 1 := by omega
   have h2 : (s + 3) % 3 = s % 3 := by omega
   rw [h1, h2, List.getElem?_append_right (by show 3 ≤ s + 3; omega)]
   show (encL L)[s + 3 - 3]? = _
   rw [Nat.add_sub_cancel, encL_get L s]
   rfl
theorem encF_get (f : F3) (c : Nat) (h : c < 3) : (encF f)[c]? = some (encF f)[c]! := by
 match c, h with
 | 0, _ => rfl
 | 1, _ => rfl
 | 2, _ => rfl
theorem holds_fr3 {w : World} {B n : Nat} {V : Value} {L : List F3} (h : Fr3 w B V n L) (hl : L.length = n) (hn : 0 < n) : ∃ g cap, V = .slice (some ⟨g, 0, none⟩) n cap ∧ B ≤ g ∧ g < w.heap.size ∧ n ≤ cap ∧ cap ≤ maxLen ∧ HoldsK encF 3 w g 0 L.toArray := by
 obtain ⟨h0, ⟨_, hz⟩ | ⟨g, cap, cur, e1, e2, e3, e4, e5, e6, e7⟩⟩ := h
 ·
  omega
 have hb : Blk w g 92 cur := e3; refine ⟨g, cap, e1, e2, hb.lt, e4, e5, fun t ht => ?_⟩; rw [Nat.zero_add]; refine ⟨?_, hb.frozen t⟩; have ht2 : t < L.length * 3 := by simpa using ht
 have h3 : t / 3 < L.length := by omega
 have hc : cur[t]? = (encL L)[t]? := by rw [← e7, List.getElem?_take_of_lt (by omega), Array.getElem?_toList]
 rw [hb.cell t, hc, encL_get, get_flatK _ _ _ _ (by simpa using ht2), getElem!_pos L.toArray (t / 3) (by simpa using h3), List.getElem?_eq_getElem h3]; simp only [List.getElem_toArray]
 exact encF_get _ _ (Nat.mod_lt _ (by decide))
theorem sortK_grown (w : World) (g m : Nat) (dk : Array F3) (os : Array Obj) : w.grownBy (sortWorldK encF 3 w g 0 m dk os) (some g) := by
 unfold sortWorldK putRowK
 refine ⟨rfl, rfl, rfl, ?_, fun j hj hne => ?_⟩
 ·
  simp
 ·
  have h1 : (putRow id (Sort.ahead w m) g 0 (flatK encF 3 dk)).heap[j]? = w.heap[j]? := by
   unfold putRow mapBlock
   have hne' : ¬ g = j := fun e => hne (by rw [e])
   simp only [Array.getElem?_modify, if_neg hne']
   rfl
  rw [heap_grow_old _ os (by simpa using hj)]
  exact h1
theorem cmp_laysF (g size : Nat) (w : World) : CmpLays Tryz.prog 113 #[] encF 3 cfF g 0 size w := by
 intro m os dk _ x y; refine (order_grn x.1 x.2.1 x.2.2 y.1 y.2.1 y.2.2 _).mono ?_; rintro e w' ⟨rfl, hg⟩
 exact ⟨rfl, hg⟩
theorem grown_below {w w' : World} {g B : Nat} (h : w.grownBy w' (some g)) (hB : B ≤ g) (hs : B ≤ w.heap.size) : Below B w w' :=
 ⟨h.os, h.tape, h.output, h.size, fun j hj => h.block j (by omega) (fun e => by have := Option.some.inj e; omega)⟩
theorem sort_row {w : World} {B g cap : Nat} {d : Array F3} (hH : HoldsK encF 3 w g 0 d) (hg : g < w.heap.size) (hB : B ≤ g) (hsz : d.size ≤ 100000) :
  Calls Tryz.prog 112 #[.slice (some ⟨g, 0, none⟩) d.size cap, .func (.func 113) #[] #[]] w fun e w' => e = .returned (.tuple #[]) ∧ ∃ d' : Array F3, PermIn 0 d.size d d' ∧ SortedIn ltF 0 d.size d' ∧ HoldsK encF 3 w' g 0 d' ∧ Below B w w' ∧ g < w'.heap.size := by
 have hO : SWO (ltOf cfF) := ltOf_cfF ▸ swoF; have hcon := (AnyQ.slices_SortFunc Tryz.laysSlLaysF0n6_f112 3 Tryz.isAgg92 Tryz.sizeOf92 encF (fun _ => rfl) (fun x v hv => by unfold encF at hv; simp at hv; rcases hv with rfl | rfl | rfl <;> rfl) cfF hO 113 #[] g 0 cap d w (enters_of Tryz.func113 (by kernel_rfl) rfl) (cmp_laysF g _ w) hH hg (by omega))
 change Calls Tryz.prog 112 _ _ _ at hcon
 refine hcon.mono ?_; rintro e w' ⟨rfl, d', n, os, h1, h2, rfl⟩; have hgr := sortK_grown w g n d' os; refine ⟨rfl, d', h1, ltOf_cfF ▸ h2, holdsK_sortWorldK_c encF 3 w g 0 d d' n os hH hg h1.1, grown_below hgr hB (by omega), Nat.lt_of_lt_of_le hg hgr.size⟩
theorem ins_none (p : Option Addr) (cap : Nat) (fv : Value) (w : World) : Calls Tryz.prog 145 #[.slice p 0 cap, .int .i64 0, .int .i64 0, fv] w fun e w' => e = .returned (.tuple #[]) ∧ w' = w := by
 go_enter Tryz.func145, Tryz.ntmps145
 go_wp2
 refine wp_loop_rounds 1 ?_; rw [rounds_succ]
 go_wp2
 go_end0
 exact ⟨rfl, rfl⟩
theorem pdq_none (p : Option Addr) (cap : Nat) (lim : Int) (fv : Value) (w : World) : Calls Tryz.prog 129 #[.slice p 0 cap, .int .i64 0, .int .i64 0, .int .i64 lim, fv] w fun e w' => e = .returned (.tuple #[]) ∧ w' = w := by
 go_enter Tryz.func129, Tryz.ntmps129
 go_wp2
 refine wp_loop_rounds 1 ?_; rw [rounds_succ]
 go_wp2_with (go_at_call 145; (with_reducible refine (ins_none _ _ _ _).mono ?_); rintro e w1 ⟨rfl, hw⟩; replace hw := hw.symm; subst hw)
 (try simp only [Exit.inBlock, Exit.then])
 refine bodyPost_ret (results_none rfl _ _ _) rfl ?_
 exact ⟨rfl, rfl⟩
theorem sort_none (p : Option Addr) (cap : Nat) (fv : Value) (w : World) : Calls Tryz.prog 112 #[.slice p 0 cap, fv] w fun e w' => e = .returned (.tuple #[]) ∧ w' = w := by
 have hl : ∀ W, Calls Tryz.prog 130 #[.int .u64 0] W fun e w' => e = .returned (.int .i64 (Lib.bitLen 0 : Nat)) ∧ w' = W := fun W => Tryz.bits_Len 0 W (by omega) (by omega)
 go_enter Tryz.func112, Tryz.ntmps112
 go_wp2_with (first
  | (go_at_call 130; refine (hl _).mono ?_; rintro e w1 ⟨rfl, hw⟩; replace hw := hw.symm; subst hw)
  | (go_at_call 129; refine (pdq_none _ _ _ _ _).mono ?_; rintro e w1 ⟨rfl, hw⟩; replace hw := hw.symm; subst hw)
  | fail)
 go_end0
 exact ⟨rfl, rfl⟩
end Go.Proofs.YtphijnkiiokieaaGreatDoor
