/- Lines of a contact: the document's example; the contracts wherever the walk stands. -/
import Derived.Test.YthknkglhppngoaaDoorFr
import Derived.Test.YthknkglhppngoaaDoorBx
namespace Go.Proofs.YthknkglhppngoaaDoor
open Go.RowKit
open Go.Lib hiding intOf
set_option linter.unusedVariables false
set_option maxRecDepth 20000
attribute [local go_sem ↓] Go.wp_at_zero Go.wp_at_succ
structure Env (w : World) : Prop where
  t : Tabs w
  m : Mx w
  d : Day.Tab w.heap.size w
theorem Env.on {w v : World} (h : Env w) (hb : Below w.heap.size w v) : Env v := ⟨tabs_on h.t hb (tabs_size h.t), h.m.keep hb h.m.lt, Day.tab_on h.d hb⟩
theorem parse_on (s : ByteArray) (hs : s.size ≤ 1000000) (k l : Int) (v : ByteArray) (e : Int) (hr : parseF s = ⟨k, l, v, e⟩) (w : World) (h : Env w) : Calls Tryd.prog 6 #[.string s] w fun x w' => x = .returned (.tuple #[.agg #[.int .i64 k, .int .i64 l, .string v], .int .i64 e]) ∧ Below w.heap.size w w' := by
  have := fparse_any s hs w h.t h.m h.d
  rw [hr] at this
  exact this
theorem line_on (k l : Int) (v : ByteArray) (hs : v.size ≤ 1000000) (r : ByteArray) (hr : lineF k l v = r) (w : World) (h : Env w) : Calls Tryd.prog 7 #[.agg #[.int .i64 k, .int .i64 l, .string v]] w fun x w' => x = .returned (.string r) ∧ Below w.heap.size w w' := by
  have := fline_any k l v hs w h.t h.m h.d
  rw [hr] at this
  exact this
theorem may_on (k l : Int) (v : ByteArray) (hs : v.size ≤ 1000000) (r : Bool) (hr : mayF k l v = r) (w : World) (h : Env w) : Calls Tryd.prog 8 #[.agg #[.int .i64 k, .int .i64 l, .string v]] w fun x w' => x = .returned (.bool r) ∧ Below w.heap.size w w' := by
  have := fmay_any k l v hs w h.t h.m h.d
  rw [hr] at this
  exact this
theorem canon_on (k l : Int) (v : ByteArray) (hs : v.size ≤ 1000000) (k2 l2 : Int) (v2 : ByteArray) (e : Int) (hr : canonV k l v = .tuple #[.agg #[.int .i64 k2, .int .i64 l2, .string v2], .int .i64 e]) (w : World) (h : Env w) : Calls Tryd.prog 9 #[.agg #[.int .i64 k, .int .i64 l, .string v]] w fun x w' => x = .returned (.tuple #[.agg #[.int .i64 k2, .int .i64 l2, .string v2], .int .i64 e]) ∧ Below w.heap.size w w' := by
  have := fcanon_any k l v hs w h.t h.m h.d
  rw [hr] at this
  exact this
theorem ex_parse : parseF ⟨#[116, 101, 108, 59, 99, 101, 108, 108, 58, 43, 52, 57, 51, 48, 49, 50, 51, 52, 53, 54]⟩ = ⟨3, 3, ⟨#[43, 52, 57, 51, 48, 49, 50, 51, 52, 53, 54]⟩, 0⟩ := by
  have hm : mayF 3 3 ⟨#[43, 52, 57, 51, 48, 49, 50, 51, 52, 53, 54]⟩ = true := by decide +kernel
  have hl : lineF 3 3 ⟨#[43, 52, 57, 51, 48, 49, 50, 51, 52, 53, 54]⟩ = ⟨#[116, 101, 108, 59, 99, 101, 108, 108, 58, 43, 52, 57, 51, 48, 49, 50, 51, 52, 53, 54]⟩ := by decide +kernel
  rw [← hl]; exact parse_line hm
theorem ex_line : lineF 3 3 ⟨#[43, 52, 57, 51, 48, 49, 50, 51, 52, 53, 54]⟩ = ⟨#[116, 101, 108, 59, 99, 101, 108, 108, 58, 43, 52, 57, 51, 48, 49, 50, 51, 52, 53, 54]⟩ := by decide +kernel
theorem ex_may : mayF 3 3 ⟨#[43, 52, 57, 51, 48, 49, 50, 51, 52, 53, 54]⟩ = true := by decide +kernel
set_option maxHeartbeats 4000000 in
theorem first_any (w : World) (h : Env w) : Calls Tryd.prog 5 #[] w fun e w' => e = .returned (.bool true) ∧ Below w.heap.size w w' := by
  have HP := Lib.hid (parse_on _ (by decide) _ _ _ _ ex_parse)
  have HL := Lib.hid (line_on _ _ _ (by decide) _ ex_line)
  have HM := Lib.hid (may_on _ _ _ (by decide) _ ex_may)
  have HE := Lib.hid h
  clear h
  go_enter Tryd.func5, Tryd.ntmps5
  go_wp2_with (go_at_call 6; (with_reducible refine (HP.out _ HE.out).mono ?_); rintro e w1 ⟨rfl, hb⟩; have HX1 := Lib.hid (((Bxs.start w).step hb).new 23 #[.int .i64 3, .int .i64 3, .string ⟨#[43, 52, 57, 51, 48, 49, 50, 51, 52, 53, 54]⟩]); clear hb)
  go_wp2_with (go_at_call 7; (with_reducible refine (HL.out _ (HE.out.on HX1.out.bel)).mono ?_); rintro e w2 ⟨rfl, hb⟩; have HX2 := Lib.hid (HX1.out.step hb); have a0 := (HX2.out.get 0 rfl).cell 0; have a1 := (HX2.out.get 0 rfl).cell 1; have a2 := (HX2.out.get 0 rfl).cell 2; clear hb)
  go_wp2_with (go_at_call 8; (with_reducible refine (HM.out _ (HE.out.on HX2.out.bel)).mono ?_); rintro e w3 ⟨rfl, hb⟩; have HX3 := Lib.hid (HX2.out.step hb); clear hb)
  go_ret
  exact ⟨rfl, HX3.out.bel⟩
end Go.Proofs.YthknkglhppngoaaDoor
