/- Bad; first: what the chapter's example fixes. -/
import Derived.Test.YtdoldjfabgcgbaaWv
import Derived.Lib.SlBytesConst
namespace Go.Proofs.Ytdoldjfabgcgbaa
open Go.RowKit
open Go.Lib hiding intOf
set_option linter.unusedVariables false
set_option linter.unusedSimpArgs false
set_option maxRecDepth 20000
theorem results_cell0 {fn : Func} {p : Tmp} {ty : TypeId} (h : fn.results = #[.cell p ty]) (tmps : Array Value) (P : Program) (w : World) (g : Nat) (t : TypeId) (cs : Array Value) (fr : Nat × Nat) (fs : Array Field)
    (hp : tmps.getD p undef = .pointer (some ⟨g, 0, none⟩)) (hg : w.heap[g]? = some (.cells cs t fr))
    (hu : P.underlying ty = some (.struct fs)) (hi : (P.info? ty).map (·.size) = some cs.size) :
    (results fn tmps).run P w = .ok (.agg cs) w := by
  have hp' : tmps[p]?.getD undef = .pointer (some ⟨g, 0, none⟩) := by simpa using hp
  simp [results, h, hp', asAddr, run_loadVar_row w g t ty cs fr _ hg hu rfl hi]
theorem bad_out {cs : Array Value} (hc : cs.size = 8) {R : Ending → World → Prop} {a : Act} {w : World} {g : Nat} (h2 : a.tmps.getD 4 undef = .pointer (some ⟨g, 0, none⟩)) (hd : a.defers = []) (hg : Blk w g 25 cs)
    (hR : R (.returned (.agg cs)) w) : bodyPost Try.prog Try.f16 R .ret a w :=
  bodyPost_ret (results_cell0 (fn := Try.f16) rfl a.tmps Try.prog w g 25 cs (0, 0) _ h2 hg Try.underlying25 (by rw [hc]; rfl)) hd hR
theorem bad_any (k e : Int) (w : World) : Calls Try.prog 16 #[.int .i64 k, .int .i64 e] w fun r w' => r = .returned (.agg #[.int .i64 k, .int .i64 e, .int .i64 0, .int .i64 0, .string ⟨#[]⟩, .int .i64 0, .bool false, .slice none 0 0]) ∧ Below w.heap.size w w' := by
  go_enter Try.func16, Try.ntmps16
  go_wp2
  exact bad_out rfl (g := w.heap.size) rfl rfl (Blk.new w _ _) ⟨rfl, (Below.refl _ _).alloc (Nat.le_refl _) _⟩
def sv : List UInt8 := [4, 0, 0, 0, 0, 0, 0]
def svc : Array Value := #[.int .u8 4, .int .u8 0, .int .u8 0, .int .u8 0, .int .u8 0, .int .u8 0, .int .u8 0]
theorem sv_byt (W : World) : Byt (W.alloc (.cells svc 5 (7, 8))) (some ⟨W.heap.size, 0, none⟩) 7 7 W.heap.size 0 sv :=
  ⟨rfl, Nat.le_refl _, by decide, fun _ => ⟨rfl, by simp⟩, fun j u hu => by
    have hc : (W.alloc (.cells svc 5 (7, 8))).cell? ⟨W.heap.size, 0 + j, none⟩ = svc[j]? := by
      have h : (W.alloc (.cells svc 5 (7, 8))).heap[W.heap.size]? = some (.cells svc 5 (7, 8)) := by
        show (W.heap.push (.cells svc 5 (7, 8)))[W.heap.size]? = _
        simp
      simp only [World.cell?, h, Nat.zero_add]
      rfl
    rw [hc]
    have : (sv.map bv)[j]? = some (bv u) := by rw [List.getElem?_map, hu]; rfl
    simpa [sv, svc, bv] using this⟩
theorem encz_small (n : Nat) (h : n < 248) : encz (n : Int) = [UInt8.ofNat n] := by
  show enc n = _
  unfold enc
  rw [if_pos h]
theorem sv_bytes : bytesR 4 0 0 ⟨#[]⟩ 0 false [] = sv := by
  have e4 := encz_small 4 (by decide)
  have e0 := encz_small 0 (by decide)
  have eT : enct ⟨#[]⟩ = [0] := by
    show encz ((0 : Nat) : Int) ++ [] = _
    rw [e0]; rfl
  have eB : encz (b01 false) = [0] := e0
  have eL : encz (([] : List It).length : Int) = [0] := e0
  have e4' : encz 4 = [4] := e4
  have e0' : encz 0 = [0] := e0
  unfold bytesR headB
  rw [e4', e0', eT, eB, eL]
  rfl
theorem sv_check : checkR 6 4 0 0 ⟨#[]⟩ 0 false [] = 0 := by
  unfold checkR
  rw [sv_bytes]
  decide
theorem sv_dec : decR 134 sv = (6, ⟨4, 0, 0, ⟨#[]⟩, 0, false, []⟩, 0) := by
  have h : decP sv = (⟨4, 0, 0, ⟨#[]⟩, 0, false, []⟩, true) := by kernel_rfl
  unfold decR checkRp
  rw [h, if_neg (by decide), if_neg (by decide)]
  simp only
  rw [show (134 : Int) - 128 = 6 from rfl, sv_check, if_neg (by decide)]
set_option maxHeartbeats 4000000 in
theorem first_any (w : World) : Calls Try.prog 7 #[] w fun e w' => e = .returned (.bool true) ∧ Below w.heap.size w w' := by
  have HBD := Lib.hid (bad_any 6 4 w)
  have HEN := Lib.hid (fun W => encode_any (its_none W) 6 4 0 0 ⟨#[]⟩ 0 false (by decide) (by decide) (fun t ht => by cases ht))
  have HDE := Lib.hid (fun W => dec_any (sv_byt W) (by decide) 134)
  unfold DecPost at HDE
  rw [sv_check, sv_bytes] at HEN
  rw [sv_dec] at HDE
  simp only [rpV, List.length_nil] at HDE
  have kc := fun (W : World) (C : Array Value) (n c : Nat) => Lib.run_convert_bytes_const (P := Try.prog) W 26 5 C n c Try.underlying26 Try.underlying5
  go_enter Try.func7, Try.ntmps7
  go_wp2_with fail
  refine HBD.out.mono ?_
  rintro _ w1 ⟨rfl, hb⟩
  have HX1 := Lib.hid ((((Bxs.start w).step hb).new 25 #[.int .i64 6, .int .i64 4, .int .i64 0, .int .i64 0, .string ⟨#[]⟩, .int .i64 0, .bool false, .slice none 0 0]))
  clear hb
  go_wp2_with fail
  refine (HEN.out _).mono ?_
  rintro _ w2 ⟨v, rfl, _, hown, hb⟩
  have HO2 := Lib.hid (hown (by trivial))
  have HX2 := Lib.hid (HX1.out.step hb)
  clear hb hown
  go_wp2_with fail
  refine (HDE.out w2).mono ?_
  rintro _ w3 ⟨A3, cap3, b3, rfl, hI, hB, hb⟩
  have HX3 := Lib.hid ((HX2.out.alloc (.cells svc 5 (7, 8))).step hb)
  have HO3 := Lib.hid ((HO2.out.below ((Below.refl _ _).alloc (Nat.le_refl _) (.cells svc 5 (7, 8)))).below hb)
  have HX4 := Lib.hid (HX3.out.new 25 #[.int .i64 6, .int .i64 4, .int .i64 0, .int .i64 0, .string ⟨#[]⟩, .int .i64 0, .bool false, .slice A3 0 cap3])
  have HT := own_text (HO3.out.below ((Below.refl _ _).alloc (Nat.le_refl _) (.cells #[.int .i64 6, .int .i64 4, .int .i64 0, .int .i64 0, .string ⟨#[]⟩, .int .i64 0, .bool false, .slice A3 0 cap3] 25)))
  have a0 := (HX4.out.get 0 rfl).cell 0
  have b0 := (HX4.out.get 1 rfl).cell 0
  have b1 := (HX4.out.get 1 rfl).cell 1
  clear hI hB hb
  go_wp2_with fail
  go_ret
  exact ⟨rfl, HX4.out.bel⟩
end Go.Proofs.Ytdoldjfabgcgbaa
