/- RespBack: what is encoded is decoded as it was, and the other way about. -/
import Derived.Test.YtdoldjfabgcgbaaNc
namespace Go.Proofs.Ytdoldjfabgcgbaa
open Go.RowKit
open Go.Lib hiding intOf
set_option linter.unusedVariables false
set_option linter.unusedSimpArgs false
set_option maxRecDepth 100000
theorem dec_cases (kind : Int) (l : List UInt8) : (∃ r, decR kind l = (kind - 128, r, 0) ∧ 128 ≤ kind ∧ kind ≤ 139 ∧ checkRp (kind - 128) r = 0 ∧ bytesRp r = l ∧ Gd r) ∨ (∃ c, c ≠ 0 ∧ decR kind l = (0, rpZ, c)) := by
  unfold decR
  split
  · exact .inr ⟨12, by decide, rfl⟩
  · split
    · exact .inr ⟨1, by decide, rfl⟩
    · rename_i h1 h2
      split
      · rename_i h3; exact .inr ⟨_, h3, rfl⟩
      · rename_i h3
        have h4 := decP_ok (l := l) (by cases h : (decP l).2 with | true => rfl | false => exact absurd h h2)
        exact .inl ⟨_, rfl, by omega, by omega, by simpa using h3, h4.1, h4.2⟩
theorem dec_enc {k e tok ver idx : Int} {card : ByteArray} {more : Bool} {xs : List It} (h : checkR k e tok ver card idx more xs = 0) (ht : tok < 9223372036854775808) (hv : ver < 9223372036854775808) (hx : ∀ t ∈ xs, t.v < 9223372036854775808) :
    decR (128 + k) (bytesR e tok ver card idx more xs) = (k, ⟨e, tok, ver, card, idx, more, xs⟩, 0) ∧ 0 ≤ k ∧ k ≤ 11 ∧ (bytesR e tok ver card idx more xs).length ≤ 20000 := by
  obtain ⟨h1, h2, h3⟩ := gd_of h ht hv hx
  have h4 := decP_enc _ h1
  unfold bytesRp at h4
  simp only at h4
  refine ⟨?_, h2, h3, (checkR_ok h).2.2⟩
  unfold decR
  rw [if_neg (by omega), h4, if_neg (fun h => absurd (show true = false from h) (by decide))]
  have h5 : 128 + k - 128 = k := by omega
  unfold checkRp
  rw [h5]
  simp only
  rw [if_neg (by rw [h]; decide)]
set_option maxHeartbeats 16000000 in
theorem back_law {w : World} {A : Option Addr} {cap b off : Nat} {xs : List It} (h : Its w A xs.length cap b off xs) (hx : ∀ t ∈ xs, t.v < 9223372036854775808) (k e tok ver : Int) (card : ByteArray) (idx : Int) (more : Bool) (ht : tok < 9223372036854775808) (hv : ver < 9223372036854775808)
    (kind : Int) {B : Option Addr} {capb bb ob : Nat} {l : List UInt8} (hby : Byt w B l.length capb bb ob l) :
    Calls Try.prog 4 #[.agg #[.int .i64 k, .int .i64 e, .int .i64 tok, .int .i64 ver, .string card, .int .i64 idx, .bool more, .slice A xs.length cap], .int .i64 kind, .slice B l.length capb] w fun r w' => r = .returned (.bool true) ∧ Below w.heap.size w w' := by
  have HX0 := Lib.hid ((Bxs.start w).new 25 #[.int .i64 k, .int .i64 e, .int .i64 tok, .int .i64 ver, .string card, .int .i64 idx, .bool more, .slice A xs.length cap])
  have HI := Lib.hid (fun W (hb : Below w.heap.size w W) => h.below hb (fun hl => (h.addr hl).2))
  have HBY := Lib.hid hby
  have HLI := Lib.hid (fun W hb => light_any (HI.out W hb) k e tok ver card idx more)
  have HEN := Lib.hid (fun W hb => encode_any (HI.out W hb) k e tok ver card idx more ht hv hx)
  have HCH := Lib.hid (fun W hb => check_any (HI.out W hb) k e tok ver card idx more ht hv hx)
  have HOK := Lib.hid (fun h => dec_enc (k := k) (e := e) (idx := idx) (card := card) (more := more) (xs := xs) h ht hv hx)
  have HLN := Lib.hid (fun (hl : lightB card xs = true) => show xs.length ≤ 1000 by
    unfold lightB at hl
    simp only [Bool.and_eq_true, decide_eq_true_eq] at hl
    omega)
  have HCS := Lib.hid (dec_cases kind l)
  obtain ⟨lb, hlb⟩ : ∃ x, lightB card xs = x := ⟨_, rfl⟩
  rw [hlb] at HLI HLN
  obtain ⟨ck, hck⟩ : ∃ x, checkR k e tok ver card idx more xs = x := ⟨_, rfl⟩
  rw [hck] at HEN HCH HOK
  obtain ⟨BS, hBS⟩ : ∃ x, bytesR e tok ver card idx more xs = x := ⟨_, rfl⟩
  rw [hBS] at HEN HOK
  clear h hx ht hv hby hlb hck hBS
  go_enter Try.func4, Try.ntmps4
  go_wp2_with fail
  refine (first_any _).mono ?_
  rintro _ w1 ⟨rfl, hb⟩
  have HX1 := Lib.hid (HX0.out.step hb)
  clear hb
  have a_0 := (HX1.out.get 0 rfl).cell 0
  have a_1 := (HX1.out.get 0 rfl).cell 1
  have a_2 := (HX1.out.get 0 rfl).cell 2
  have a_3 := (HX1.out.get 0 rfl).cell 3
  have a_4 := (HX1.out.get 0 rfl).cell 4
  have a_5 := (HX1.out.get 0 rfl).cell 5
  have a_6 := (HX1.out.get 0 rfl).cell 6
  have a_7 := (HX1.out.get 0 rfl).cell 7
  go_wp2_with fail
  refine (HLI.out _ HX1.out.bel).mono ?_
  rintro _ w2 ⟨rfl, hb⟩
  have HX2 := Lib.hid (HX1.out.step hb)
  clear hb
  by_cases hlight : lb = true ∧ l.length ≤ 1500
  · obtain ⟨rfl, hll⟩ := hlight
    have HSM := Lib.hid (fun W Q c q hb (hi : Its W Q xs.length c q 0 xs) => sameR_any hi (HI.out W hb) (HLN.out rfl) k e tok ver card idx more)
    have HBT := Lib.hid (fun (W : World) (hb : Below w.heap.size w W) => byt_text (HBY.out.on hb))
    have hlI : (l.length : Int) ≤ 1500 := by omega
    rcases HCS.out with ⟨r, hdr, hk1, hk2, hcr, hbr, hgd⟩ | ⟨c, hc0, hdr⟩
    · obtain ⟨v1, v2, v3, v4, v5, v6, v7⟩ := r
      have HDE := Lib.hid (fun (W : World) (hb : Below w.heap.size w W) => dec_any (HBY.out.on hb) (Nat.le_trans hll (by omega)) kind)
      unfold DecPost at HDE
      rw [hdr] at HDE
      unfold checkRp at hcr
      unfold bytesRp at hbr
      simp only [rpV] at hcr hbr HDE
      have hg2 : v2 < 9223372036854775808 := hgd.t
      have hg3 : v3 < 9223372036854775808 := hgd.v
      have hg7 : ∀ t ∈ v7, t.v < 9223372036854775808 := fun t ht => (hgd.xs t ht).v
      have HE2 := Lib.hid (fun W Q c q (hi : Its W Q v7.length c q 0 v7) => hcr ▸ hbr ▸ encode_any hi (kind - 128) v1 v2 v3 v4 v5 v6 hg2 hg3 hg7)
      clear hcr hbr hdr hg2 hg3 hg7 hgd
      have hw0 : wrap64 (kind - 128) = kind - 128 := IntWalk.wrap64_in _ (by omega)
      go_wp2_with fail
      refine (HDE.out _ HX2.out.bel).mono ?_
      rintro _ w3 ⟨A3, cap3, b3, rfl, hI, hB, hb⟩
      have HX3 := Lib.hid ((HX2.out.step hb).new 25 #[.int .i64 (kind - 128), .int .i64 v1, .int .i64 v2, .int .i64 v3, .string v4, .int .i64 v5, .bool v6, .slice A3 v7.length cap3])
      have HI3 := Lib.hid (hI.below ((Below.refl w3.heap.size w3).alloc (Nat.le_refl _) (.cells #[.int .i64 (kind - 128), .int .i64 v1, .int .i64 v2, .int .i64 v3, .string v4, .int .i64 v5, .bool v6, .slice A3 v7.length cap3] 25)) (fun hl => (hI.addr hl).2))
      clear hI hB hb
      have b_0 := (HX3.out.get 1 rfl).cell 0
      have b_1 := (HX3.out.get 1 rfl).cell 1
      have b_2 := (HX3.out.get 1 rfl).cell 2
      have b_3 := (HX3.out.get 1 rfl).cell 3
      have b_4 := (HX3.out.get 1 rfl).cell 4
      have b_5 := (HX3.out.get 1 rfl).cell 5
      have b_6 := (HX3.out.get 1 rfl).cell 6
      have b_7 := (HX3.out.get 1 rfl).cell 7
      go_wp2_with fail
      refine (HE2.out _ _ _ _ HI3.out).mono ?_
      rintro _ w4 ⟨v, rfl, _, hown, hb⟩
      have HX4 := Lib.hid (HX3.out.step hb)
      have hT := own_text (hown (by trivial))
      have hT2 := HBT.out w4 HX4.out.bel
      have c0 := (HX4.out.get 1 rfl).cell 0
      clear hown hb
      have p_0 := (HX4.out.get 0 rfl).cell 0
      have p_1 := (HX4.out.get 0 rfl).cell 1
      have p_2 := (HX4.out.get 0 rfl).cell 2
      have p_3 := (HX4.out.get 0 rfl).cell 3
      have p_4 := (HX4.out.get 0 rfl).cell 4
      have p_5 := (HX4.out.get 0 rfl).cell 5
      have p_6 := (HX4.out.get 0 rfl).cell 6
      have p_7 := (HX4.out.get 0 rfl).cell 7
      by_cases hck : ck = 0
      · subst hck
        obtain ⟨hDD, hk0, hk1, hBL⟩ := HOK.out rfl
        have HDQ := Lib.hid (fun W Q q c (hy : Byt W Q BS.length q c 0 BS) => dec_any hy (Nat.le_trans hBL (by omega)) (128 + k))
        unfold DecPost at HDQ
        rw [hDD] at HDQ
        simp only [rpV] at HDQ
        clear hDD
        have hBLI : (BS.length : Int) ≤ 20000 := by omega
        have hw1 : wrap64 (128 + k) = 128 + k := IntWalk.wrap64_in _ (by omega)
        go_wp2_with fail
        refine (HEN.out _ HX4.out.bel).mono ?_
        rintro _ y1 ⟨v, rfl, _, hown, hb⟩
        have HXA := Lib.hid (HX4.out.step hb)
        obtain ⟨A7, cap7, b7, rfl, hy⟩ := (hown (by trivial)).byt
        have HY := Lib.hid hy
        clear hown hb hy
        have q_0 := (HXA.out.get 0 rfl).cell 0
        have q_1 := (HXA.out.get 0 rfl).cell 1
        have q_2 := (HXA.out.get 0 rfl).cell 2
        have q_3 := (HXA.out.get 0 rfl).cell 3
        have q_4 := (HXA.out.get 0 rfl).cell 4
        have q_5 := (HXA.out.get 0 rfl).cell 5
        have q_6 := (HXA.out.get 0 rfl).cell 6
        have q_7 := (HXA.out.get 0 rfl).cell 7
        go_wp2_with fail
        refine (HDQ.out _ _ _ _ HY.out).mono ?_
        rintro _ y2 ⟨A8, cap8, b8, rfl, hI, hB, hb⟩
        have HXB := Lib.hid ((HXA.out.step hb).new 25 #[.int .i64 k, .int .i64 e, .int .i64 tok, .int .i64 ver, .string card, .int .i64 idx, .bool more, .slice A8 xs.length cap8])
        have HI8 := Lib.hid (hI.below ((Below.refl y2.heap.size y2).alloc (Nat.le_refl _) (.cells #[.int .i64 k, .int .i64 e, .int .i64 tok, .int .i64 ver, .string card, .int .i64 idx, .bool more, .slice A8 xs.length cap8] 25)) (fun hl => (hI.addr hl).2))
        clear hI hB hb
        have r_0 := (HXB.out.get 0 rfl).cell 0
        have r_1 := (HXB.out.get 0 rfl).cell 1
        have r_2 := (HXB.out.get 0 rfl).cell 2
        have r_3 := (HXB.out.get 0 rfl).cell 3
        have r_4 := (HXB.out.get 0 rfl).cell 4
        have r_5 := (HXB.out.get 0 rfl).cell 5
        have r_6 := (HXB.out.get 0 rfl).cell 6
        have r_7 := (HXB.out.get 0 rfl).cell 7
        have s_0 := (HXB.out.get 2 rfl).cell 0
        have s_1 := (HXB.out.get 2 rfl).cell 1
        have s_2 := (HXB.out.get 2 rfl).cell 2
        have s_3 := (HXB.out.get 2 rfl).cell 3
        have s_4 := (HXB.out.get 2 rfl).cell 4
        have s_5 := (HXB.out.get 2 rfl).cell 5
        have s_6 := (HXB.out.get 2 rfl).cell 6
        have s_7 := (HXB.out.get 2 rfl).cell 7
        go_wp2_with fail
        refine (HSM.out _ _ _ _ HXB.out.bel HI8.out).mono ?_
        rintro _ y3 ⟨rfl, hb⟩
        have HXC := Lib.hid (HXB.out.step hb)
        clear hb
        go_wp2
        go_ret
        exact ⟨rfl, HXC.out.bel⟩
      · have d0 : (ck != 0) = true := by simpa using hck
        have HNE := Lib.hid hck
        clear hck
        go_wp2_with fail
        refine (HEN.out _ HX4.out.bel).mono ?_
        rintro _ y1 ⟨v, rfl, hnil, _, hb⟩
        have HXA := Lib.hid (HX4.out.step hb)
        obtain rfl := hnil HNE.out
        clear hnil hb
        have q_0 := (HXA.out.get 0 rfl).cell 0
        have q_1 := (HXA.out.get 0 rfl).cell 1
        have q_2 := (HXA.out.get 0 rfl).cell 2
        have q_3 := (HXA.out.get 0 rfl).cell 3
        have q_4 := (HXA.out.get 0 rfl).cell 4
        have q_5 := (HXA.out.get 0 rfl).cell 5
        have q_6 := (HXA.out.get 0 rfl).cell 6
        have q_7 := (HXA.out.get 0 rfl).cell 7
        go_wp2_with fail
        refine (HCH.out _ HXA.out.bel).mono ?_
        rintro _ y2 ⟨rfl, hb⟩
        have HXB := Lib.hid (HXA.out.step hb)
        clear hb
        go_wp2
        go_ret
        exact ⟨rfl, HXB.out.bel⟩
    · have dc : (c == 0) = false := by simpa using hc0
      have HDE := Lib.hid (fun (W : World) (hb : Below w.heap.size w W) => dec_any (HBY.out.on hb) (Nat.le_trans hll (by omega)) kind)
      unfold DecPost at HDE
      rw [hdr] at HDE
      simp only [rpV, rpZ, List.length_nil] at HDE
      clear hdr hc0
      go_wp2_with fail
      refine (HDE.out _ HX2.out.bel).mono ?_
      rintro _ w3 ⟨A3, cap3, b3, rfl, hI, hB, hb⟩
      have HX3 := Lib.hid ((HX2.out.step hb).new 25 #[.int .i64 0, .int .i64 0, .int .i64 0, .int .i64 0, .string ⟨#[]⟩, .int .i64 0, .bool false, .slice A3 0 cap3])
      have HI3 := Lib.hid (hI.below ((Below.refl w3.heap.size w3).alloc (Nat.le_refl _) (.cells #[.int .i64 0, .int .i64 0, .int .i64 0, .int .i64 0, .string ⟨#[]⟩, .int .i64 0, .bool false, .slice A3 0 cap3] 25)) (fun hl => (hI.addr hl).2))
      clear hI hB hb
      have b_0 := (HX3.out.get 1 rfl).cell 0
      have b_1 := (HX3.out.get 1 rfl).cell 1
      have b_2 := (HX3.out.get 1 rfl).cell 2
      have b_3 := (HX3.out.get 1 rfl).cell 3
      have b_4 := (HX3.out.get 1 rfl).cell 4
      have b_5 := (HX3.out.get 1 rfl).cell 5
      have b_6 := (HX3.out.get 1 rfl).cell 6
      have b_7 := (HX3.out.get 1 rfl).cell 7
      go_wp2_with fail
      refine (sameR_any HI3.out (its_none _) (by omega) 0 0 0 0 ⟨#[]⟩ 0 false).mono ?_
      rintro _ w4 ⟨rfl, hb⟩
      have HX4 := Lib.hid (HX3.out.step hb)
      clear hb
      have p_0 := (HX4.out.get 0 rfl).cell 0
      have p_1 := (HX4.out.get 0 rfl).cell 1
      have p_2 := (HX4.out.get 0 rfl).cell 2
      have p_3 := (HX4.out.get 0 rfl).cell 3
      have p_4 := (HX4.out.get 0 rfl).cell 4
      have p_5 := (HX4.out.get 0 rfl).cell 5
      have p_6 := (HX4.out.get 0 rfl).cell 6
      have p_7 := (HX4.out.get 0 rfl).cell 7
      by_cases hck : ck = 0
      · subst hck
        obtain ⟨hDD, hk0, hk1, hBL⟩ := HOK.out rfl
        have HDQ := Lib.hid (fun W Q q c (hy : Byt W Q BS.length q c 0 BS) => dec_any hy (Nat.le_trans hBL (by omega)) (128 + k))
        unfold DecPost at HDQ
        rw [hDD] at HDQ
        simp only [rpV] at HDQ
        clear hDD
        have hBLI : (BS.length : Int) ≤ 20000 := by omega
        have hw1 : wrap64 (128 + k) = 128 + k := IntWalk.wrap64_in _ (by omega)
        go_wp2_with fail
        refine (HEN.out _ HX4.out.bel).mono ?_
        rintro _ y1 ⟨v, rfl, _, hown, hb⟩
        have HXA := Lib.hid (HX4.out.step hb)
        obtain ⟨A7, cap7, b7, rfl, hy⟩ := (hown (by trivial)).byt
        have HY := Lib.hid hy
        clear hown hb hy
        have q_0 := (HXA.out.get 0 rfl).cell 0
        have q_1 := (HXA.out.get 0 rfl).cell 1
        have q_2 := (HXA.out.get 0 rfl).cell 2
        have q_3 := (HXA.out.get 0 rfl).cell 3
        have q_4 := (HXA.out.get 0 rfl).cell 4
        have q_5 := (HXA.out.get 0 rfl).cell 5
        have q_6 := (HXA.out.get 0 rfl).cell 6
        have q_7 := (HXA.out.get 0 rfl).cell 7
        go_wp2_with fail
        refine (HDQ.out _ _ _ _ HY.out).mono ?_
        rintro _ y2 ⟨A8, cap8, b8, rfl, hI, hB, hb⟩
        have HXB := Lib.hid ((HXA.out.step hb).new 25 #[.int .i64 k, .int .i64 e, .int .i64 tok, .int .i64 ver, .string card, .int .i64 idx, .bool more, .slice A8 xs.length cap8])
        have HI8 := Lib.hid (hI.below ((Below.refl y2.heap.size y2).alloc (Nat.le_refl _) (.cells #[.int .i64 k, .int .i64 e, .int .i64 tok, .int .i64 ver, .string card, .int .i64 idx, .bool more, .slice A8 xs.length cap8] 25)) (fun hl => (hI.addr hl).2))
        clear hI hB hb
        have r_0 := (HXB.out.get 0 rfl).cell 0
        have r_1 := (HXB.out.get 0 rfl).cell 1
        have r_2 := (HXB.out.get 0 rfl).cell 2
        have r_3 := (HXB.out.get 0 rfl).cell 3
        have r_4 := (HXB.out.get 0 rfl).cell 4
        have r_5 := (HXB.out.get 0 rfl).cell 5
        have r_6 := (HXB.out.get 0 rfl).cell 6
        have r_7 := (HXB.out.get 0 rfl).cell 7
        have s_0 := (HXB.out.get 2 rfl).cell 0
        have s_1 := (HXB.out.get 2 rfl).cell 1
        have s_2 := (HXB.out.get 2 rfl).cell 2
        have s_3 := (HXB.out.get 2 rfl).cell 3
        have s_4 := (HXB.out.get 2 rfl).cell 4
        have s_5 := (HXB.out.get 2 rfl).cell 5
        have s_6 := (HXB.out.get 2 rfl).cell 6
        have s_7 := (HXB.out.get 2 rfl).cell 7
        go_wp2_with fail
        refine (HSM.out _ _ _ _ HXB.out.bel HI8.out).mono ?_
        rintro _ y3 ⟨rfl, hb⟩
        have HXC := Lib.hid (HXB.out.step hb)
        clear hb
        go_wp2
        go_ret
        exact ⟨rfl, HXC.out.bel⟩
      · have d0 : (ck != 0) = true := by simpa using hck
        have HNE := Lib.hid hck
        clear hck
        go_wp2_with fail
        refine (HEN.out _ HX4.out.bel).mono ?_
        rintro _ y1 ⟨v, rfl, hnil, _, hb⟩
        have HXA := Lib.hid (HX4.out.step hb)
        obtain rfl := hnil HNE.out
        clear hnil hb
        have q_0 := (HXA.out.get 0 rfl).cell 0
        have q_1 := (HXA.out.get 0 rfl).cell 1
        have q_2 := (HXA.out.get 0 rfl).cell 2
        have q_3 := (HXA.out.get 0 rfl).cell 3
        have q_4 := (HXA.out.get 0 rfl).cell 4
        have q_5 := (HXA.out.get 0 rfl).cell 5
        have q_6 := (HXA.out.get 0 rfl).cell 6
        have q_7 := (HXA.out.get 0 rfl).cell 7
        go_wp2_with fail
        refine (HCH.out _ HXA.out.bel).mono ?_
        rintro _ y2 ⟨rfl, hb⟩
        have HXB := Lib.hid (HXA.out.step hb)
        clear hb
        go_wp2
        go_ret
        exact ⟨rfl, HXB.out.bel⟩
  · by_cases hlb : lb = true
    · subst hlb
      have hlI : (l.length : Int) > 1500 := by have : ¬ l.length ≤ 1500 := fun h => hlight ⟨rfl, h⟩; omega
      go_wp2_with fail
      refine (first_any _).mono ?_
      rintro _ w3 ⟨rfl, hb⟩
      have HX3 := Lib.hid (HX2.out.step hb)
      go_wp2
      go_ret
      exact ⟨rfl, HX3.out.bel⟩
    · obtain rfl : lb = false := by simpa using hlb
      go_wp2_with fail
      refine (first_any _).mono ?_
      rintro _ w3 ⟨rfl, hb⟩
      have HX3 := Lib.hid (HX2.out.step hb)
      go_wp2
      go_ret
      exact ⟨rfl, HX3.out.bel⟩
theorem wf_lt {a : Int} (h : (Lit.int .i64 a).wf = true) : a < 9223372036854775808 := by
  simp [Lit.wf, IntKind.min, IntKind.max, IntKind.signed, IntKind.bits] at h
  omega
theorem respBack_walk (w : World) (a0 : Int) (w0 : (Lit.int .i64 a0).wf = true) (a1 : Int) (w1 : (Lit.int .i64 a1).wf = true) (a2 : Int) (w2 : (Lit.int .i64 a2).wf = true) (a3 : Int) (w3 : (Lit.int .i64 a3).wf = true) (a4 : ByteArray) (w4 : a4.size ≤ maxLen) (a5 : Int) (w5 : (Lit.int .i64 a5).wf = true) (a6 : Bool) (A7 : Option Addr) (len7 cap7 : Nat) (S7 : Sh.ok w (Sh.slice 4 shIt) [.slice A7 len7 cap7]) (a8 : Int) (w8 : (Lit.int .i64 a8).wf = true) (A9 : Option Addr) (len9 cap9 : Nat) (S9 : Sh.ok w (Sh.slice 1 (Sh.int .u8)) [.slice A9 len9 cap9]) :
    Calls Try.prog 4 #[.agg #[.int .i64 a0, .int .i64 a1, .int .i64 a2, .int .i64 a3, .string a4, .int .i64 a5, .bool a6, .slice A7 len7 cap7], .int .i64 a8, .slice A9 len9 cap9] w fun e w' => e = .returned (.bool true) ∧ Below w.heap.size w w' := by
  obtain ⟨b, off, xs, h, hx⟩ := its_open S7
  obtain ⟨bb, ob, l, hb⟩ := byt_open S9
  obtain rfl := h.hlen
  obtain rfl := hb.hlen
  exact back_law h hx a0 a1 a2 a3 a4 a5 a6 (wf_lt w2) (wf_lt w3) a8 hb
end Go.Proofs.Ytdoldjfabgcgbaa
