/- OmapTexts: a map of texts does as one of numbers. -/
import Derived.Test.YtmapfbnfcbkjpaaLc
import Derived.Test.YtmapfbnfcbkjpaaLd
import Derived.Test.YtmapfbnfcbkjpaaOsk
namespace Go.Proofs.Ytmapfbnfcbkjpaa
open Go.RowKit
open Go.Lib
set_option linter.unusedVariables false
set_option linter.unusedSimpArgs false
set_option maxRecDepth 100000
def FV (v : Int) : ByteArray := dgt (bits .and .i64 v 255)
section
variable {α β : Type}
def mapV (F : α → β) (L : List (ByteArray × α)) : List (ByteArray × β) := L.map fun p => (p.1, F p.2)
theorem mapV_len (F : α → β) (L : List (ByteArray × α)) : (mapV F L).length = L.length := by unfold mapV; rw [List.length_map]
theorem mapV_ins (F : α → β) (k : ByteArray) (v : α) : ∀ L : List (ByteArray × α), insL k (F v) (mapV F L) = mapV F (insL k v L)
  | [] => rfl
  | p :: L => by
    show insL k (F v) ((p.1, F p.2) :: mapV F L) = _
    unfold insL
    simp only
    split
    · rfl
    split
    · rfl
    · rw [mapV_ins F k v L]; rfl
theorem mapV_del (F : α → β) (k : ByteArray) (L : List (ByteArray × α)) : delL k (mapV F L) = mapV F (delL k L) := by
  unfold delL mapV
  rw [List.filter_map]; rfl
theorem mapV_get (F : α → β) (k : ByteArray) : ∀ L : List (ByteArray × α), getL k (mapV F L) = (getL k L).map F
  | [] => rfl
  | p :: L => by
    show getL k ((p.1, F p.2) :: mapV F L) = _
    rw [getL_cons, getL_cons]
    simp only
    split
    · rfl
    · exact mapV_get F k L
theorem mapV_at (F : α → β) {L : List (ByteArray × α)} {i : Nat} {p : ByteArray × α} (h : L[i]? = some p) : (mapV F L)[i]? = some (p.1, F p.2) := by
  unfold mapV
  rw [List.getElem?_map, h]; rfl
end
theorem os_keep {w w' : World} {g gs : Nat} {L : LI} {M : List (ByteArray × ByteArray)} (h : OS.Om w gs M) (hg : OI.Om w g L) (hk : OI.Ko w w' g) : OS.Om w' gs M := by
  obtain ⟨p, hb⟩ := hg.box
  obtain ⟨q, hc⟩ := h.box
  refine h.keep (hk.block gs h.lt (fun e => ?_)) (fun b cs x => (hk.block b x.lt (fun e => ?_)).trans x)
  · subst e; unfold Blk at hb hc; rw [hb] at hc; cases hc
  · subst e; unfold Blk at hb x; rw [hb] at x; cases x
theorem oi_keep {w w' : World} {g gs : Nat} {L : LI} {M : List (ByteArray × ByteArray)} (h : OS.Om w gs M) (hg : OI.Om w g L) (hk : OS.Ko w w' gs) : OI.Om w' g L := by
  obtain ⟨p, hb⟩ := hg.box
  obtain ⟨q, hc⟩ := h.box
  refine hg.keep (hk.block g hg.lt (fun e => ?_)) (fun b cs x => (hk.block b x.lt (fun e => ?_)).trans x)
  · subst e; unfold Blk at hb hc; rw [hb] at hc; cases hc
  · subst e; unfold Blk at hc x; rw [hc] at x; cases x
theorem ko_cell {w w' : World} {g : Nat} (h : OI.Ko w w' g) {p : Addr} (hp : p.block < w.heap.size) (hn : p.block ≠ g) : w'.cell? p = w.cell? p := by
  unfold World.cell?
  rw [h.block _ hp hn]
theorem ko_cells {w w' : World} {g : Nat} (h : OS.Ko w w' g) {p : Addr} (hp : p.block < w.heap.size) (hn : p.block ≠ g) : w'.cell? p = w.cell? p := by
  unfold World.cell?
  rw [h.block _ hp hn]
/-- Two maps side by side. -/
structure Tp (w0 w : World) (g gs k : Nat) (L : LI) (M : List (ByteArray × ByteArray)) : Prop where
  om : OI.Om w g L
  os : OS.Om w gs M
  bel : Below w0.heap.size w0 w
  ge : w0.heap.size ≤ g
  ges : w0.heap.size ≤ gs
  len : L.length ≤ k
  lens : M.length ≤ k
section
variable {w0 w w' : World} {g gs k : Nat} {L L2 : LI} {M M2 : List (ByteArray × ByteArray)}
theorem Tp.below (h : Tp w0 w g gs k L M) (hb : Below w.heap.size w w') : Tp w0 w' g gs k L M := ⟨h.om.below hb, h.os.below hb, h.bel.trans (hb.mono h.bel.size), h.ge, h.ges, h.len, h.lens⟩
theorem Tp.one (h : Tp w0 w g gs k L M) (ho : OI.Om w' g L2) (hk : OI.Ko w w' g) (hl : L2.length ≤ k + 1) : Tp w0 w' g gs (k + 1) L2 M :=
  ⟨ho, os_keep h.os h.om hk, h.bel.trans (hk.below h.ge h.bel.size), h.ge, h.ges, hl, Nat.le_succ_of_le h.lens⟩
theorem Tp.two (h : Tp w0 w g gs k L M) (ho : OS.Om w' gs M2) (hk : OS.Ko w w' gs) (hl : M2.length ≤ k) : Tp w0 w' g gs k L M2 :=
  ⟨oi_keep h.os h.om hk, ho, h.bel.trans ⟨hk.os, hk.tape, hk.output, hk.size, fun j hj => hk.block j (Nat.lt_of_lt_of_le hj h.bel.size) (by have := h.ges; omega)⟩, h.ge, h.ges, h.len, hl⟩
end
theorem ins_le {α : Type} {L : List (ByteArray × α)} (hs : Srt L) (k : ByteArray) (v : α) {n : Nat} (hn : L.length ≤ n) : (insL k v L).length ≤ n + 1 := by
  rw [insL_len hs]; split <;> omega
theorem del_le {α : Type} (L : List (ByteArray × α)) (k : ByteArray) {n : Nat} (hn : L.length ≤ n) : (delL k L).length ≤ n := Nat.le_trans (List.length_filter_le _ _) hn
set_option maxHeartbeats 8000000 in
theorem texts_in (w : World) (A : Option Addr) (len cap b off : Nat) (xs : Nat → A3) (hl : len ≤ cap) (hm : cap ≤ maxLen) (hA : Acts w A len b off xs) :
    Calls Try.prog 4 #[.slice A len cap] w fun e w' => e = .returned (.bool true) ∧ Below w.heap.size w w' := by
  have HA := Lib.hid hA
  have HM := Lib.hid hm
  have HLC := Lib.hid hl
  clear hA hm hl
  go_enter Try.func4, Try.ntmps4
  go_wp2_with fail
  refine (first_any _).mono ?_
  rintro _ w1 ⟨rfl, hb⟩
  have HB1 := Lib.hid hb
  have HA1 := Lib.hid (HA.out.keep hb)
  clear hb
  go_wp2_with fail
  refine (light_any w1 A len cap b off xs HLC.out HM.out HA1.out).mono ?_
  rintro _ wz ⟨⟨bb, rfl, hlt⟩, hw0⟩
  replace hw0 := hw0.symm
  subst hw0
  have HLT := Lib.hid hlt
  clear hlt
  cases bb with
  | false =>
    go_wp2_with fail
    refine (first_any _).mono ?_
    rintro _ w2 ⟨rfl, hb⟩
    have HB2 := Lib.hid hb
    clear hb
    go_wp2
    go_ret
    exact ⟨rfl, HB1.out.trans (HB2.out.mono HB1.out.size)⟩
  | true =>
    obtain ⟨h80, h40⟩ := HLT.out rfl
    have H40 := Lib.hid h40
    clear h40 HLT
    go_wp2_with fail
    refine (OI.om_new _).mono ?_
    rintro _ w2 ⟨g, rfl, h1, hb, hg⟩
    have H2 := Lib.hid h1
    have HB2 := Lib.hid hb
    clear h1 hb
    go_wp2_with fail
    refine (OS.om_new _).mono ?_
    rintro _ w3 ⟨gs, rfl, h1, hb, hgs⟩
    have H3 := Lib.hid (H2.out.below hb)
    have H3s := Lib.hid h1
    have HB3 := Lib.hid (HB2.out.trans (hb.mono HB2.out.size))
    clear h1 hb
    go_wp2_with fail
    have HT0 := Lib.hid (show Tp w1 w3 g gs 0 [] [] from ⟨H3.out, H3s.out, HB3.out, hg, Nat.le_trans HB2.out.size hgs, Nat.le_refl _, Nat.le_refl _⟩)
    clear HB2 HB3 H2 H3 H3s hg hgs
    go_loopw [5] (fun i wr => ∃ (k : Nat) (L : LI), k ≤ len ∧ i = .int .i64 (k : Int) ∧ Tp w1 wr g gs k L (mapV FV L)) (fun i _ => len - (intOf i).toNat)
    case atStart => exact ⟨0, [], Nat.zero_le _, rfl, HT0.out⟩
    case round =>
      obtain ⟨k, L, hk, rfl, hc⟩ := hrel
      have HC := Lib.hid hc
      by_cases hlt : k < len
      · obtain ⟨c0, c1, c2, _, _⟩ := (HA1.out.keep (hc.bel)).2 k hlt
        obtain rfl := (HA1.out.1 (by omega)).1
        obtain ⟨op, hop⟩ : ∃ op, (xs k).1 = op := ⟨_, rfl⟩
        obtain ⟨x, hx⟩ : ∃ x, (xs k).2.1 = x := ⟨_, rfl⟩
        obtain ⟨v, hv⟩ : ∃ v, (xs k).2.2 = v := ⟨_, rfl⟩
        rw [hop] at c0
        rw [hx] at c1
        rw [hv] at c2
        have hkI : (k : Int) < (len : Int) := by omega
        clear hc hop hx hv
        have hgl := HC.out.om.lt
        have hgsl := HC.out.os.lt
        have hkl := HC.out.len
        have hkls := HC.out.lens
        have hBl := Blk.new wr 30 #[.int .i64 op, .string x, .int .i64 v]
        have HTW := Lib.hid (HC.out.below (((Below.refl _ wr).alloc (Nat.le_refl _) (.cells #[.int .i64 op, .string x, .int .i64 v] 30)).drew))
        have e1 : (wr.alloc (.cells #[.int .i64 op, .string x, .int .i64 v] 30)).drew.cell? ⟨wr.heap.size, 1, none⟩ = some (.string x) := hBl.cell 1
        have e2 : (wr.alloc (.cells #[.int .i64 op, .string x, .int .i64 v] 30)).drew.cell? ⟨wr.heap.size, 2, none⟩ = some (.int .i64 v) := hBl.cell 2
        have hzs : wr.heap.size < (wr.alloc (.cells #[.int .i64 op, .string x, .int .i64 v] 30)).drew.heap.size := by show _ < (wr.alloc _).heap.size; simp
        obtain ⟨o, ho⟩ : ∃ o, (getL x L).isSome = o := ⟨_, rfl⟩
        have HO := Lib.hid ho
        have HOS := Lib.hid (show (getL x (mapV FV L)).isSome = o from by rw [mapV_get]; rw [← ho]; cases getL x L <;> rfl)
        clear ho hBl
        by_cases o1 : op = 1
        · subst o1
          have HDL := Lib.hid (OI.om_del HTW.out.om (by omega) x o HO.out)
          go_wp2_with fail
          go_region_held3 (fun w' => w'.cell? ⟨wr.heap.size, 1, none⟩ = some (.string x)) (first | exact e1 | exact e3 | exact e4) (first
            | (go_at_call 12
               (with_reducible refine HDL.out.mono ?_)
               clear HDL
               rintro _ w4 ⟨rfl, h1, h2⟩
               have HT4 := Lib.hid (HTW.out.one h1 h2 (Nat.le_succ_of_le (del_le L x hkl)))
               have e3 : w4.cell? ⟨wr.heap.size, 1, none⟩ = some (.string x) := (ko_cell h2 hzs (by show wr.heap.size ≠ g; omega)).trans e1
               have hz4 : wr.heap.size < w4.heap.size := Nat.lt_of_lt_of_le hzs h2.size
               have HDS := Lib.hid (OS.om_del HT4.out.os (by rw [mapV_len]; omega) x o HOS.out)
               clear h1 h2)
            | (go_at_call 20
               (with_reducible refine HDS.out.mono ?_)
               clear HDS
               rintro _ w5 ⟨rfl, h1, h2⟩
               have HT5 := Lib.hid (HT4.out.two h1 h2 (Nat.le_succ_of_le (del_le _ x hkls)))
               have e4 : w5.cell? ⟨wr.heap.size, 1, none⟩ = some (.string x) := (ko_cells h2 hz4 (by show wr.heap.size ≠ gs; omega)).trans e3
               clear h1 h2)
            | fail)
          all_goals (
            go_wp2_with fail
            exact ⟨⟨k + 1, delL x L, by omega, by go_num, by rw [← mapV_del]; exact HT5.out⟩, by simp [intOf]; omega⟩)
        · have o1b : (op == 1) = false := by simpa using o1
          have HDL := Lib.hid (OI.om_put HTW.out.om (by omega) x v o HO.out)
          go_wp2_with fail
          go_region_held3 (fun w' => w'.cell? ⟨wr.heap.size, 1, none⟩ = some (.string x) ∧ w'.cell? ⟨wr.heap.size, 2, none⟩ = some (.int .i64 v)) (first | exact ⟨e1, e2⟩ | exact ⟨e3, e3'⟩ | exact ⟨e4, e4'⟩ | exact ⟨e5, e5'⟩) (first
            | (go_at_call 11
               (with_reducible refine HDL.out.mono ?_)
               clear HDL
               rintro _ w4 ⟨rfl, h1, h2⟩
               have HT4 := Lib.hid (HTW.out.one h1 h2 (ins_le HTW.out.om.srt x v hkl))
               have e3 : w4.cell? ⟨wr.heap.size, 1, none⟩ = some (.string x) := (ko_cell h2 hzs (by show wr.heap.size ≠ g; omega)).trans e1
               have e3' : w4.cell? ⟨wr.heap.size, 2, none⟩ = some (.int .i64 v) := (ko_cell h2 hzs (by show wr.heap.size ≠ g; omega)).trans e2
               have hz4 : wr.heap.size < w4.heap.size := Nat.lt_of_lt_of_le hzs h2.size
               clear h1 h2)
            | (go_at_call 22
               (with_reducible refine (digits_any _ _).mono ?_)
               rintro _ w5 ⟨rfl, h1⟩
               have HT5 := Lib.hid (HT4.out.below h1)
               have e4 : w5.cell? ⟨wr.heap.size, 1, none⟩ = some (.string x) := (h1.cell (p := ⟨wr.heap.size, 1, none⟩) hz4).trans e3
               have e4' : w5.cell? ⟨wr.heap.size, 2, none⟩ = some (.int .i64 v) := (h1.cell (p := ⟨wr.heap.size, 2, none⟩) hz4).trans e3'
               have hz5 : wr.heap.size < w5.heap.size := Nat.lt_of_lt_of_le hz4 h1.size
               clear h1)
            | (go_at_call 21
               (with_reducible refine (OS.om_put HT5.out.os (by rw [mapV_len]; omega) x _ o HOS.out).mono ?_)
               rintro _ w6 ⟨rfl, h1, h2⟩
               have HT6 := Lib.hid (HT5.out.two h1 h2 (ins_le HT5.out.os.srt x _ hkls))
               have e5 : w6.cell? ⟨wr.heap.size, 1, none⟩ = some (.string x) := (ko_cells h2 hz5 (by show wr.heap.size ≠ gs; omega)).trans e4
               have e5' : w6.cell? ⟨wr.heap.size, 2, none⟩ = some (.int .i64 v) := (ko_cells h2 hz5 (by show wr.heap.size ≠ gs; omega)).trans e4'
               clear h1 h2)
            | fail)
          all_goals (
            go_wp2_with fail
            exact ⟨⟨k + 1, insL x v L, by omega, by go_num, by rw [← mapV_ins]; exact HT6.out⟩, by simp [intOf]; omega⟩)
      · obtain rfl : k = len := by omega
        have hLk := hc.len
        obtain ⟨n, hn⟩ : ∃ n, L.length = n := ⟨_, rfl⟩
        have HN := Lib.hid hn
        have hn80 : n ≤ 80 := by omega
        clear hc hlt hn hLk
        go_wp2_with fail
        go_loopw [7] (fun i wr => ∃ q : Nat, q ≤ n ∧ i = .int .i64 (q : Int) ∧ Tp w1 wr g gs k L (mapV FV L)) (fun i _ => n - (intOf i).toNat)
        case atStart => exact ⟨0, Nat.zero_le _, rfl, HC.out⟩
        case round =>
          obtain ⟨q, hq, rfl, hc⟩ := hrel
          have HR := Lib.hid hc
          have HLN := Lib.hid (OI.om_len hc.om)
          have HLS := Lib.hid (OS.om_len hc.os)
          rw [HN.out] at HLN
          rw [mapV_len, HN.out] at HLS
          clear hc
          go_wp2_with fail
          refine HLN.out.mono ?_
          rintro _ wz ⟨rfl, hw0⟩
          replace hw0 := hw0.symm
          subst hw0
          by_cases hql : q < n
          · obtain ⟨⟨x, v⟩, hp⟩ : ∃ p, L[q]? = some p := ⟨L[q]'(by rw [HN.out]; exact hql), List.getElem?_eq_getElem _⟩
            have hqI : (q : Int) < (n : Int) := by omega
            have hq100 : (q : Int) < 100 := by omega
            have HPI := Lib.hid hp
            clear hp
            go_wp2_with fail
            refine (OI.om_at HR.out.om (by rw [HN.out]; omega) q x v HPI.out).mono ?_
            rintro _ w7 ⟨rfl, hb⟩
            have HR7 := Lib.hid (HR.out.below hb)
            clear hb
            go_wp2_with fail
            refine (OS.om_at HR7.out.os (by rw [mapV_len, HN.out]; omega) q x (dgt (bits .and .i64 v 255)) (mapV_at FV HPI.out)).mono ?_
            rintro _ w8 ⟨rfl, hb⟩
            have HR8 := Lib.hid (HR7.out.below hb)
            clear hb
            go_wp2_with fail
            refine (digits_any _ _).mono ?_
            rintro _ w9 ⟨rfl, hb⟩
            have HR9 := Lib.hid (HR8.out.below hb)
            clear hb
            go_wp2_with fail
            go_roundw
            case rel => exact ⟨q + 1, by omega, by go_num, HR9.out⟩
            case measure => simp [intOf]; omega
          · obtain rfl : n = q := by omega
            have hqI : ¬ (n : Int) < (n : Int) := by omega
            clear hql
            go_wp2_with (first
              | (go_at_call 15
                 (with_reducible refine HLN.out.mono ?_)
                 rintro _ wz ⟨rfl, hw0⟩
                 replace hw0 := hw0.symm
                 subst hw0)
              | (go_at_call 24
                 (with_reducible refine HLS.out.mono ?_)
                 rintro _ wz ⟨rfl, hw0⟩
                 replace hw0 := hw0.symm
                 subst hw0)
              | fail)
            go_ret
            exact ⟨by first | rfl | simp, HB1.out.trans (HR.out.bel.mono HB1.out.size)⟩
theorem omapTexts_walk (w : World) (A0 : Option Addr) (len0 cap0 : Nat) (S0 : Sh.ok w (Sh.slice 3 (Sh.agg 3 [(0, 1, (Sh.int .i64)), (1, 1, Sh.str), (2, 1, (Sh.int .i64))])) [.slice A0 len0 cap0]) :
    Calls Try.prog 4 #[.slice A0 len0 cap0] w fun e w' => e = .returned (.bool true) ∧ Below w.heap.size w w' := by
  obtain ⟨b, off, xs, hl, hm, hA⟩ := acts_of S0
  exact texts_in w A0 len0 cap0 b off xs hl hm hA
end Go.Proofs.Ytmapfbnfcbkjpaa
