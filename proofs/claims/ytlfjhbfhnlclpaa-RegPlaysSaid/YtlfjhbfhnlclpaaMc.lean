/- RegPlays: the reference's registry: Load, Under. -/
import Derived.Test.YtlfjhbfhnlclpaaMb
import Derived.Test.YtlfjhbfhnlclpaaJr
namespace Go.Proofs.Ytlfjhbfhnlclpaa
open Go.RowKit
open Go.Lib
open Go.ChangeShapes Go.ChangeAt
set_option linter.unusedVariables false
set_option linter.unusedSimpArgs false
set_option maxRecDepth 100000
theorem wpList_push1 {P : Program} (w : World) {ops : Array Oper} {rest : List Oper} {o : Oper} {a : Act} {Q : Exit → Act → World → Prop} (hgd : o.guard = none) (s x : Operand) (t : TypeId)
    (ho : o.op = .call { callee := .builtin .append, args := #[s, x], argTypes := #[t, t] })
    (base : Nat) (e : TypeId) (i : TypeInfo) (z : Value) (bytes : Nat) (ht : P.underlying t = some (.slice e)) (hi : P.info? e = some i) (hz : i.zero = some z)
    (hsize : i.size = 1) (hby : i.bytes = bytes) (hzs : z.cells.size = 1)
    (v : Value) (n : Nat) (xs : List Value) (hs : a.eval s = v) (hown : w.ownsRow base e 1 v n xs)
    (g : Nat) (u : Value) (hx : a.eval x = .slice (some ⟨g, 0, none⟩) 1 1) (hb : Blk w g e #[u]) (hu : u.oneCell' = true) (hn : n ≤ 1000) (h16 : bytes ≤ 16) (hbase : base ≤ w.heap.size)
    (h : ∀ v' w', w'.ownsRow base e 1 v' (n + 1) (xs ++ [u]) → w.grownBy w' v.ownBlock → wpList P ops Q rest (a.put o.dst v') w') :
    wpList P ops Q (o :: rest) a w := by
  refine wpList_append_own _ hgd s x t ho base e i z 1 bytes ht hi hz hsize hby hzs (by decide) v n xs hs hown ⟨g, 0, none⟩ 1 1 [u] hx rfl ?c1 ?c2 ?c3 ?c4 ?c5 ?_
  case c1 => exact World.news_of_block (cs := #[u]) (t := e) (fr := (0, 0)) hb
  case c2 => intro y hy; simp at hy; subst hy; exact hu
  case c3 => unfold maxLen; omega
  case c4 =>
    have : (n + 1) * bytes ≤ 1001 * 16 := Nat.mul_le_mul (by omega) h16
    omega
  case c5 => exact hbase
  intro v' w' h1 h2 _
  exact h v' w' h1 h2
def cntI (n s : Int) (L : LN) (i : Nat) : Nat := ((L.take i).filter (inS n s)).length
theorem cntI_le (n s : Int) (L : LN) (i : Nat) : cntI n s L i ≤ L.length := by
  unfold cntI
  exact Nat.le_trans (List.length_filter_le _ _) (by rw [List.length_take]; omega)
theorem cntI_step {n s : Int} {L : LN} {i : Nat} {p : ByteArray × Int} (h : L[i]? = some p) : cntI n s L (i + 1) = cntI n s L i + if shd n p.1 = s then 1 else 0 := by
  unfold cntI
  rw [List.take_add_one, h, List.filter_append, List.length_append]
  congr 1
  simp only [Option.toList, List.filter_cons, List.filter_nil]
  unfold inS
  by_cases e : shd n p.1 = s
  · rw [if_pos e, if_pos (by simpa using e)]; rfl
  · rw [if_neg e, if_neg (by simpa using e)]; rfl
section
variable {w w' : World} {B o nL ck cv : Nat} {n : Int} {Ak Av : Option Addr} {L : LN}
set_option maxHeartbeats 4000000 in
theorem rload_any (h : Ro w B o n nL Ak ck Av cv L) (hn : nL ≤ 100000) (hk : ∀ q ∈ L, q.1.size ≤ 40) (h1 : 1 ≤ n) (h2 : n ≤ 9223372036854775807) (s : Int) (m : Nat) (hm : (L.filter (inS n s)).length = m) :
    Calls Try.prog 20 #[.pointer (some ⟨o, 0, none⟩), .int .i64 s] w fun e w' => e = .returned (.int .i64 (m : Int)) ∧ Below w.heap.size w w' := by
  have H := Lib.hid h
  have HM := Lib.hid hm
  have HK := Lib.hid hk
  have HLN := Lib.hid h.hl
  have hnI : (nL : Int) ≤ 100000 := by omega
  clear h hm hk
  go_enter Try.func20, Try.ntmps20
  go_wp2_with fail
  go_loopw [5, 6] (fun t i wr => ∃ q : Nat, q ≤ nL ∧ t = .int .i64 (cntI n s L q : Int) ∧ i = .int .i64 (q : Int) ∧ Below w.heap.size w wr) (fun _ i _ => nL - (intOf i).toNat)
  case atStart => exact ⟨0, Nat.zero_le _, rfl, rfl, Below.refl _ _⟩
  case round =>
    obtain ⟨q, hq, rfl, rfl, hb⟩ := hrel
    have HB := Lib.hid hb
    have hcl := cntI_le n s L q
    obtain ⟨kc, hkc⟩ : ∃ kc, cntI n s L q = kc := ⟨_, rfl⟩
    rw [hkc] at hcl ⊢
    have hkl : kc ≤ 100000 := by have := HLN.out; omega
    have HKC := Lib.hid hkc
    have c1 : wr.cell? ⟨o, 1, none⟩ = some (.slice Ak nL ck) := (H.out.below hb).box.cell 1
    have c0 : wr.cell? ⟨o, 0, none⟩ = some (.int .i64 n) := (H.out.below hb).box.cell 0
    clear hb hkc hcl
    by_cases hql : q < nL
    · obtain ⟨p, hp⟩ : ∃ p, L[q]? = some p := ⟨L[q]'(by rw [HLN.out]; exact hql), List.getElem?_eq_getElem _⟩
      obtain ⟨gk, hgk⟩ := (H.out.below HB.out).keys
      obtain ⟨rfl, hgl, d0⟩ := hgk.2 q p.1 (by unfold keysL; rw [List.getElem?_map, hp]; rfl)
      have hqI : (q : Int) < (nL : Int) := by omega
      have hps : p.1.size ≤ maxLen := by have := HK.out p (List.mem_of_getElem? hp); unfold maxLen; omega
      have HST := Lib.hid (cntI_step (n := n) (s := s) hp)
      obtain ⟨key, hkey⟩ : ∃ key, p.1 = key := ⟨_, rfl⟩
      rw [hkey] at d0 hps HST
      have HSH := Lib.hid (fun nq => rshard_some key n (wr.drewN nq) hps h1 h2)
      obtain ⟨sh, hsh⟩ : ∃ sh, shd n key = sh := ⟨_, rfl⟩
      rw [hsh] at HSH HST
      clear hgk hp hkey hps hsh
      by_cases he : sh = s
      · have heb : (sh == s) = true := by simpa using he
        have HST2 := Lib.hid (show cntI n s L (q + 1) = kc + 1 from by rw [HST.out, if_pos he, HKC.out])
        clear he
        go_wp2_with fail
        go_quiet ((go_at_call 31; exact Calls.quiet_of_same (HSH.out _)))
        have HG := Lib.hid (show Below w.heap.size w (wr.drewN nq) from below_drewN HB.out nq)
        go_wp2
        go_roundw
        case rel => exact ⟨q + 1, by omega, by rw [HST2.out]; go_num, by go_num, HG.out⟩
        case measure => simp [intOf]; omega
      · have heb : (sh == s) = false := by simpa using he
        have HST2 := Lib.hid (show cntI n s L (q + 1) = kc from by rw [HST.out, if_neg he, HKC.out]; rfl)
        clear he
        go_wp2_with fail
        go_quiet ((go_at_call 31; exact Calls.quiet_of_same (HSH.out _)))
        have HG := Lib.hid (show Below w.heap.size w (wr.drewN nq) from below_drewN HB.out nq)
        go_wp2
        go_roundw
        case rel => exact ⟨q + 1, by omega, by rw [HST2.out], by go_num, HG.out⟩
        case measure => simp [intOf]; omega
    · obtain rfl : q = nL := by omega
      obtain rfl : kc = m := by
        rw [← HKC.out, ← HM.out]
        unfold cntI
        rw [← HLN.out, List.take_length]
      clear hql
      go_wp2
      go_ret
      exact ⟨rfl, HB.out⟩
def preK (px : ByteArray) (L : LN) (q : Nat) : List ByteArray := keysL ((L.take q).filter (pre px))
theorem preK_step {px : ByteArray} {L : LN} {q : Nat} {p : ByteArray × Int} (h : L[q]? = some p) : preK px L (q + 1) = preK px L q ++ if preB px p.1 = true then [p.1] else [] := by
  unfold preK keysL
  rw [List.take_add_one, h, List.filter_append, List.map_append]
  congr 1
  simp only [Option.toList, List.filter_cons, List.filter_nil]
  unfold pre
  split <;> rfl
theorem preK_le (px : ByteArray) (L : LN) (q : Nat) : (preK px L q).length ≤ L.length := by
  unfold preK
  rw [keysL_len]
  exact Nat.le_trans (List.length_filter_le _ _) (by rw [List.length_take]; omega)
theorem infoS9 : (Try.prog.info? 9).map (fun i => (i.zero, i.size, i.bytes)) = some (some (.string .empty), 1, 16) := by kernel_rfl
theorem preB_ff' {px k : ByteArray} (h : ¬ px.size ≤ k.size) : preB px k = false := by unfold preB; rw [decide_eq_false h]; rfl
theorem preB_tt' {px k : ByteArray} (h : px.size ≤ k.size) : preB px k = ((k.extract 0 px.size).toList == px.toList) := by unfold preB; rw [decide_eq_true h]; rfl
set_option maxHeartbeats 4000000 in
theorem runder_any (h : Ro w B o n nL Ak ck Av cv L) (hn : nL ≤ 1000) (px : ByteArray) (ks : List ByteArray) (hks : keysL (L.filter (pre px)) = ks) (m : Nat) (hm : ks.length = m) :
    Calls Try.prog 23 #[.pointer (some ⟨o, 0, none⟩), .string px] w fun e w' => ∃ V, e = .returned V ∧ w'.ownsRow w.heap.size 9 1 V m (svs ks) ∧ Below w.heap.size w w' := by
  obtain ⟨i9, h90, h91, h92, h93⟩ := info_parts infoS9
  have H := Lib.hid h
  have HM := Lib.hid hm
  have HKS := Lib.hid hks
  have HLN := Lib.hid h.hl
  have hnI : (nL : Int) ≤ 1000 := by omega
  clear h hm hks
  go_enter Try.func23, Try.ntmps23
  go_wp2_with fail
  go_loopw [5, 6] (fun t i wr => ∃ q : Nat, q ≤ nL ∧ wr.ownsRow w.heap.size 9 1 t (preK px L q).length (svs (preK px L q)) ∧ i = .int .i64 (q : Int) ∧ Below w.heap.size w wr) (fun _ i _ => nL - (intOf i).toNat)
  case atStart => exact ⟨0, Nat.zero_le _, ⟨rfl, .inl ⟨rfl, rfl⟩⟩, rfl, Below.refl _ _⟩
  case round =>
    obtain ⟨q, hq, hrow, rfl, hb⟩ := hrel
    have HB := Lib.hid hb
    have hcl := preK_le px L q
    have HROW := Lib.hid hrow
    have c1 : wr.cell? ⟨o, 1, none⟩ = some (.slice Ak nL ck) := (H.out.below hb).box.cell 1
    clear hb hrow
    by_cases hql : q < nL
    · obtain ⟨p, hp⟩ : ∃ p, L[q]? = some p := ⟨L[q]'(by rw [HLN.out]; exact hql), List.getElem?_eq_getElem _⟩
      obtain ⟨gk, hgk⟩ := (H.out.below HB.out).keys
      obtain ⟨rfl, hgl, d0⟩ := hgk.2 q p.1 (by unfold keysL; rw [List.getElem?_map, hp]; rfl)
      have hqI : (q : Int) < (nL : Int) := by omega
      have HST := Lib.hid (preK_step (px := px) hp)
      obtain ⟨x, hx⟩ : ∃ x, p.1 = x := ⟨_, rfl⟩
      rw [hx] at d0 HST
      clear hgk hp hx
      by_cases hsz : px.size ≤ x.size
      · have hszI : (x.size : Int) ≥ (px.size : Int) := by omega
        have hszI2 : (px.size : Int) ≤ (x.size : Int) := by omega
        obtain ⟨be, hbe⟩ : ∃ be, ((x.extract 0 px.size).toList == px.toList) = be := ⟨_, rfl⟩
        rw [preB_tt' hsz, hbe] at HST
        cases be with
        | true =>
          have HRA := Lib.hid (row_alloc HROW.out (.cells #[.string x] 9))
          go_wp2_with (at_builtin; refine wpList_push1 _ rfl _ _ 37 rfl w.heap.size 9 i9 _ 16 Try.underlying37 h90 h91 h92 h93 rfl _ _ _ rfl HRA.out wr.heap.size (.string x) rfl (Blk.new wr 9 _) rfl ?p1 (by decide) ?p2 ?_)
          case p1 => have := HLN.out; omega
          case p2 => have := HB.out.size; simp; omega
          intro v' w2 hown' hgrow
          have HW2 := Lib.hid (show Below w.heap.size w w2 from (HB.out.alloc HB.out.size _).grown hgrow (by have := HB.out.size; simp; omega) (fun j e => (HRA.out.lt j e).1))
          have HO2 := Lib.hid (show w2.ownsRow w.heap.size 9 1 v' (preK px L (q + 1)).length (svs (preK px L (q + 1))) from by
            rw [HST.out, if_pos (by trivial), List.length_append]
            have : svs (preK px L q ++ [x]) = svs (preK px L q) ++ [.string x] := by unfold svs; rw [List.map_append]; rfl
            rw [this]
            exact hown')
          clear hown' hgrow
          go_wp2
          go_roundw
          case rel => exact ⟨q + 1, by omega, HO2.out, by go_num, HW2.out⟩
          case measure => simp [intOf]; omega
        | false =>
          have HO2 := Lib.hid (show preK px L (q + 1) = preK px L q from by rw [HST.out, if_neg (by decide), List.append_nil])
          go_wp2
          go_roundw
          case rel => exact ⟨q + 1, by omega, by rw [HO2.out]; exact HROW.out, by go_num, HB.out⟩
          case measure => simp [intOf]; omega
      · have hszI : ¬ (x.size : Int) ≥ (px.size : Int) := by omega
        rw [preB_ff' hsz] at HST
        have HO2 := Lib.hid (show preK px L (q + 1) = preK px L q from by rw [HST.out, if_neg (by decide), List.append_nil])
        go_wp2
        go_roundw
        case rel => exact ⟨q + 1, by omega, by rw [HO2.out]; exact HROW.out, by go_num, HB.out⟩
        case measure => simp [intOf]; omega
    · obtain rfl : q = nL := by omega
      have HF := Lib.hid (show preK px L q = ks from by rw [← HKS.out]; unfold preK; rw [← HLN.out, List.take_length])
      clear hql
      go_wp2
      go_ret
      exact ⟨_, rfl, by have := HROW.out; rw [HF.out, HM.out] at this; exact this, HB.out⟩
end
end Go.Proofs.Ytlfjhbfhnlclpaa
