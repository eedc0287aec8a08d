/- WireTakes, walked. -/
import Derived.Test.YtolplnlfekledaaAlive
namespace Go.Proofs.Ytolplnlfekledaa
open Go.RowKit WireMath
set_option maxHeartbeats 4000000
set_option maxRecDepth 100000

/-- A list of what is asked: a kind and a most each. -/
def SA (w : World) (v : Value) (acts : List (Nat × Nat)) : Prop := ∃ A c, v = .slice A acts.length c ∧ acts.length ≤ c ∧
  ∀ (i : Nat) k m, acts[i]? = some (k, m) → k < 256 ∧ m < 18446744073709551616 ∧ ∃ ad, A = some ad ∧ ad.block < w.heap.size ∧ w.cell? (ad.add (i * 2)) = some (.int .u8 (k : Int)) ∧ w.cell? (ad.add (i * 2 + 1)) = some (.int .u64 (m : Int))

def TkLaw (w : World) (g n : Nat) (b : List UInt8) (a e i : Value) (wr : World) : Prop :=
  ∃ k at_ er : Nat, k ≤ n ∧ i = .int .i64 (k : Int) ∧ a = .int .i64 (at_ : Int) ∧ e = .int .i64 (er : Int) ∧ at_ ≤ b.length ∧ er ≤ 12 ∧ Rdr wr g (b.drop at_) er ∧ Below w.heap.size w wr

theorem cell_field {w : World} {ad : Addr} {k : Nat} {v : Value} (h : w.cell? (ad.add (k + 1)) = some v) : w.cell? ⟨(ad.add k).block, (ad.add k).off + 1, none⟩ = some v := by
  have e1 : ad.add (k + 1) = ⟨(ad.add k).block, (ad.add k).off + 1, none⟩ := by
    unfold Addr.add
    rw [if_neg (by omega)]
    split
    · rename_i h0; subst h0; rfl
    · simp [Nat.add_assoc]
  rw [e1] at h
  exact h

theorem as_int (m : Nat) (hm : m < 18446744073709551616) : ∃ (kz : Int) (mm : Nat), wrap64 (m : Int) = kz ∧ kz ≤ 9223372036854775807 ∧ max kz 0 = (mm : Int) ∧ mm ≤ 9223372036854775807 ∧ kz.toNat = mm := by
  by_cases h : m < 9223372036854775808
  · exact ⟨(m : Int), m, by unfold wrap64; omega, by omega, by omega, by omega, by omega⟩
  · exact ⟨(m : Int) - 18446744073709551616, 0, by unfold wrap64; omega, by omega, by omega, by omega, by omega⟩

theorem first_zero (c : Int) (w : World) : Calls Try.prog 16 #[.int .i64 0, .int .i64 c] w (fun en w' => en = .returned (.int .i64 c) ∧ w' = w) := by
  have := first_any 0 c w
  rwa [if_pos rfl] at this
theorem first_keep (e : Nat) (c : Int) (w : World) (h : e ≠ 0) : Calls Try.prog 16 #[.int .i64 (e : Int), .int .i64 c] w (fun en w' => en = .returned (.int .i64 (e : Int)) ∧ w' = w) := by
  have := first_any e c w
  rwa [if_neg (by omega)] at this

theorem law4_long (v u : Value) (b : List UInt8) (acts : List (Nat × Nat)) (w : World) (hv : SB w v b) (hu : SA w u acts) (hl : 300 < b.length) (hl' : b.length ≤ 9223372036854775807) : Calls Try.prog 4 #[v, u] w (RetV w (.bool true)) := by
  have HA := Lib.hid (alive_any w)
  obtain ⟨A, cap, rfl, hcap, hs⟩ := hv
  obtain ⟨A', cap', rfl, hcap', hs'⟩ := hu
  clear hs hs'
  generalize b.length = ll at *
  generalize acts.length = n at *
  go_enter Try.func4, Try.ntmps4
  go_wp2_with fail
  refine HA.out.mono ?_
  rintro en w2 ⟨rfl, hb⟩
  go_wp2_with fail
  go_ret
  exact ⟨rfl, hb⟩
theorem law4_many (v u : Value) (b : List UInt8) (acts : List (Nat × Nat)) (w : World) (hv : SB w v b) (hu : SA w u acts) (hl : ¬ 300 < b.length) (hn : 30 < acts.length) (hn' : acts.length ≤ 9223372036854775807) : Calls Try.prog 4 #[v, u] w (RetV w (.bool true)) := by
  have HA := Lib.hid (alive_any w)
  obtain ⟨A, cap, rfl, hcap, hs⟩ := hv
  obtain ⟨A', cap', rfl, hcap', hs'⟩ := hu
  clear hs hs'
  generalize b.length = ll at *
  generalize acts.length = n at *
  go_enter Try.func4, Try.ntmps4
  go_wp2_with fail
  refine HA.out.mono ?_
  rintro en w2 ⟨rfl, hb⟩
  go_wp2_with fail
  go_ret
  exact ⟨rfl, hb⟩

theorem law4_main (v u : Value) (b : List UInt8) (acts : List (Nat × Nat)) (w : World) (hv : SB w v b) (hu : SA w u acts) (hl : b.length ≤ 300) (hn : acts.length ≤ 30) : Calls Try.prog 4 #[v, u] w (RetV w (.bool true)) := by
  have HA := Lib.hid (alive_any w)
  have HV := Lib.hid hv
  have HL := Lib.hid hl
  obtain ⟨A, cap, rfl, hcap, hs⟩ := hv
  obtain ⟨A', cap', rfl, hcap', hs'⟩ := hu
  have HS := Lib.hid hs
  have HU := Lib.hid hs'
  clear hs hs'
  obtain ⟨nb, hnb⟩ : ∃ nb, nb = b.length := ⟨_, rfl⟩
  rw [← hnb] at hl hcap HV ⊢
  have HNB := Lib.hid hnb
  clear hnb
  obtain ⟨n, hna⟩ : ∃ n, n = acts.length := ⟨_, rfl⟩
  rw [← hna] at hn hcap' ⊢
  have HN := Lib.hid hna
  clear hna
  have hl' : ¬ 300 < nb := by omega
  have hn' : ¬ 30 < n := by omega
  go_enter Try.func4, Try.ntmps4
  go_wp2_with fail
  refine HA.out.mono ?_
  rintro en w2 ⟨rfl, hb2⟩
  have HNEW := Lib.hid (new_any (.slice A nb cap) b w2 (HV.out.below hb2) (by have := HL.out; omega))
  go_wp2_with fail
  refine HNEW.out.mono ?_
  rintro en w3 ⟨g, rfl, hg, hr3, hb3⟩
  have hB3 := Below.step hb2 hb3
  have hgw : w.heap.size ≤ g := by have := hb2.size; omega
  have HR3 := Lib.hid hr3
  clear hr3 hb3 hb2 hg HNEW
  go_wp2_with fail
  go_loopw [6, 7, 8] (TkLaw w g n b) (fun _ _ i _ => n - (intOf i).toNat)
  case atStart => exact ⟨0, 0, 0, Nat.zero_le _, rfl, rfl, rfl, Nat.zero_le _, by omega, by rw [List.drop_zero]; exact HR3.out, hB3⟩
  case round =>
    obtain ⟨i, at_, er, hi, rfl, rfl, rfl, hat, her, hr, hB⟩ := hrel
    have HR := Lib.hid hr
    rw [← HNB.out] at hat
    clear hr
    by_cases hlt : i < n
    · obtain ⟨⟨kd, m⟩, hact⟩ : ∃ x, acts[i]? = some x := ⟨acts[i]'(by have := HN.out; omega), List.getElem?_eq_getElem _⟩
      obtain ⟨hkd, hm, ad, rfl, hbl, hck0, hcm0⟩ := HU.out i kd m hact
      have hck : wr.cell? (ad.add (i * 2)) = some (.int .u8 (kd : Int)) := (hB.cell (p := ad.add (i * 2)) (by rw [add_block]; exact hbl)).trans hck0
      have hcm : wr.cell? ⟨(ad.add (i * 2)).block, (ad.add (i * 2)).off + 1, none⟩ = some (.int .u64 (m : Int)) := cell_field ((hB.cell (p := ad.add (i * 2 + 1)) (by rw [add_block]; exact hbl)).trans hcm0)
      have HBL := Lib.hid hbl
      have HCK0 := Lib.hid hck0
      have HVB := Lib.hid (HV.out.below hB)
      have HTK := Lib.hid (refTake_any (.slice A nb cap) b at_ m wr HVB.out (by have := HL.out; omega) (by rw [← HNB.out]; exact hat))
      have hdl : (b.drop at_).length ≤ 300 := by rw [List.length_drop]; have := HL.out; omega
      have HDL := Lib.hid hdl
      have hrdw := rd_ways m (b.drop at_)
      have hck3 : kd % 3 = 0 ∨ kd % 3 = 1 ∨ kd % 3 = 2 := by omega
      clear hact hbl hck0 hcm0 hdl
      rcases hck3 with hk3 | hk3 | hk3
      · have hk3' : (kd : Int) % 3 = 0 := by omega
        clear hk3

        by_cases he0 : er = 0
        · subst he0
          rcases hrdw with ⟨c, hrd, hc⟩ | ⟨rn, rk, hrd, hn1, hn64, hk0, hk10, hkl⟩
          · rw [hrd] at HTK
            have HNUM := Lib.hid (num_any g m (b.drop at_) wr HR.out (by have := HDL.out; omega))
            rw [hrd, List.drop_zero] at HNUM
            have hcne : ((c : Int) == 0) = false := by rw [beq_eq_false_iff_ne]; omega
            have hc12 : c ≤ 12 := by omega
            clear hrd hc
            go_wp2_with fail
            refine HTK.out.mono ?_
            rintro en w4 ⟨rfl, rfl⟩

            go_wp2_with fail
            refine HNUM.out.mono ?_
            rintro en w5 ⟨rfl, hr5, hg5⟩
            have hB5 : Below w.heap.size w w5 := hB.trans (grown_below hg5 hB.size hgw)
            have HR5 := Lib.hid hr5
            clear hr5 hg5
            go_wp2_with fail
            refine (first_zero c w5).mono ?_
            rintro en w6 ⟨rfl, rfl⟩
            have HERR := Lib.hid (err_any g _ _ w6 HR5.out)
            have HLEFT := Lib.hid (left_any g _ _ w6 HR5.out)
            obtain ⟨d, hd⟩ : ∃ d, d = (b.drop at_).length := ⟨_, rfl⟩
            rw [← hd] at HLEFT
            have hsub : (nb : Int) - ((at_ : Int)) = (d : Int) := by rw [hd, List.length_drop, ← HNB.out]; omega
            clear hd

            go_wp2_with fail
            refine HERR.out.mono ?_
            rintro en w30 ⟨rfl, rfl⟩
            go_wp2_with fail
            refine HLEFT.out.mono ?_
            rintro en w31 ⟨rfl, rfl⟩
            go_wp2_with fail
            go_roundw
            case rel => exact ⟨i + 1, at_, c, by omega, by go_num, by go_num, by go_num, by rw [← HNB.out]; omega, by omega, HR5.out, hB5⟩
            case measure => simp [intOf]; omega

          · rw [hrd] at HTK
            have HNUM := Lib.hid (num_any g m (b.drop at_) wr HR.out (by have := HDL.out; omega))
            rw [hrd] at HNUM
            simp only [List.drop_drop] at HNUM
            rw [List.length_drop, ← HNB.out] at hkl
            obtain ⟨at2, hat2⟩ : ∃ at2, at2 = at_ + rk := ⟨_, rfl⟩
            have hadd : (at_ : Int) + (rk : Int) = (at2 : Int) := by omega
            have hat2b : at2 ≤ nb := by omega
            rw [← hat2] at HNUM
            clear hrd hat2
            go_wp2_with fail
            refine HTK.out.mono ?_
            rintro en w4 ⟨rfl, rfl⟩

            go_wp2_with fail
            refine HNUM.out.mono ?_
            rintro en w5 ⟨rfl, hr5, hg5⟩
            have hB5 : Below w.heap.size w w5 := hB.trans (grown_below hg5 hB.size hgw)
            have HR5 := Lib.hid hr5
            clear hr5 hg5
            have HERR := Lib.hid (err_any g _ _ w5 HR5.out)
            have HLEFT := Lib.hid (left_any g _ _ w5 HR5.out)
            obtain ⟨d, hd⟩ : ∃ d, d = (b.drop at2).length := ⟨_, rfl⟩
            rw [← hd] at HLEFT
            have hsub : (nb : Int) - ((at2 : Int)) = (d : Int) := by rw [hd, List.length_drop, ← HNB.out]; omega
            clear hd

            go_wp2_with fail
            refine HERR.out.mono ?_
            rintro en w30 ⟨rfl, rfl⟩
            go_wp2_with fail
            refine HLEFT.out.mono ?_
            rintro en w31 ⟨rfl, rfl⟩
            go_wp2_with fail
            go_roundw
            case rel => exact ⟨i + 1, at2, 0, by omega, by go_num, by go_num, by go_num, by rw [← HNB.out]; omega, by omega, HR5.out, hB5⟩
            case measure => simp [intOf]; omega

        · obtain ⟨rn, rk, rc, hrd⟩ : ∃ rn rk rc, rd m (b.drop at_) = (rn, rk, rc) := ⟨_, _, _, rfl⟩
          rw [hrd] at HTK
          have HNUM := Lib.hid (num_stuck g er _ m wr HR.out he0)
          have hene : ((er : Int) == 0) = false := by rw [beq_eq_false_iff_ne]; omega
          clear hrd hrdw
          go_wp2_with fail
          refine HTK.out.mono ?_
          rintro en w4 ⟨rfl, rfl⟩

          go_wp2_with fail
          refine HNUM.out.mono ?_
          rintro en w5 ⟨rfl, rfl⟩
          go_wp2_with fail
          refine (first_keep er rc w5 he0).mono ?_
          rintro en w6 ⟨rfl, rfl⟩
          have HERR := Lib.hid (err_any g _ _ w6 HR.out)
          have HLEFT := Lib.hid (left_any g _ _ w6 HR.out)
          obtain ⟨d, hd⟩ : ∃ d, d = (b.drop at_).length := ⟨_, rfl⟩
          rw [← hd] at HLEFT
          have hsub : (nb : Int) - ((at_ : Int)) = (d : Int) := by rw [hd, List.length_drop, ← HNB.out]; omega
          clear hd

          go_wp2_with fail
          refine HERR.out.mono ?_
          rintro en w30 ⟨rfl, rfl⟩
          go_wp2_with fail
          refine HLEFT.out.mono ?_
          rintro en w31 ⟨rfl, rfl⟩
          go_wp2_with fail
          go_roundw
          case rel => exact ⟨i + 1, at_, er, by omega, by go_num, by go_num, by go_num, by rw [← HNB.out]; omega, by omega, HR.out, hB⟩
          case measure => simp [intOf]; omega
      · have hk3' : (kd : Int) % 3 = 1 := by omega
        clear hk3

        obtain ⟨rn, rk, rc, hrd⟩ : ∃ rn rk rc, rd m (b.drop at_) = (rn, rk, rc) := ⟨_, _, _, rfl⟩
        rw [hrd] at HTK
        clear hrd hrdw
        by_cases he0 : er = 0
        · subst he0
          by_cases hatn : at_ < nb
          · obtain ⟨x, hxa⟩ : ∃ x, b[at_]? = some x := ⟨b[at_]'(by have := HNB.out; omega), List.getElem?_eq_getElem _⟩
            obtain ⟨bd, rfl, hbbl, hbc⟩ := HS.out at_ _ (bs_at hxa)
            have hdc : b.drop at_ = x :: b.drop (at_ + 1) := by
              obtain ⟨hp, rfl⟩ := List.getElem?_eq_some_iff.1 hxa
              exact List.drop_eq_getElem_cons hp
            have hr0 := HR.out
            rw [hdc] at hr0
            have HBY := Lib.hid (byte_any g x (b.drop (at_ + 1)) wr hr0 (by rw [← hdc]; have := HDL.out; omega))
            have HBBL := Lib.hid hbbl
            have HBC := Lib.hid hbc
            clear hr0 hdc hxa hbbl hbc
            go_wp2_with fail
            refine HTK.out.mono ?_
            rintro en w4 ⟨rfl, rfl⟩

            go_wp2_with fail
            refine HBY.out.mono ?_
            rintro en w5 ⟨rfl, hr5, hg5⟩
            have hB5 : Below w.heap.size w w5 := hB.trans (grown_below hg5 hB.size hgw)
            have hcell5 : w5.cell? (bd.add at_) = some (.int .u8 (x.toNat : Int)) := (hB5.cell (p := bd.add at_) (by rw [add_block]; exact HBBL.out)).trans HBC.out
            have HR5 := Lib.hid hr5
            clear hr5 hg5 HBY HBC
            generalize x.toNat = xa at hcell5 ⊢
            have HERR := Lib.hid (err_any g _ _ w5 HR5.out)
            have HLEFT := Lib.hid (left_any g _ _ w5 HR5.out)
            obtain ⟨d, hd⟩ : ∃ d, d = (b.drop (at_ + 1)).length := ⟨_, rfl⟩
            rw [← hd] at HLEFT
            have hsub : (nb : Int) - ((at_ : Int) + 1) = (d : Int) := by rw [hd, List.length_drop, ← HNB.out]; omega
            clear hd

            go_wp2_with fail
            refine HERR.out.mono ?_
            rintro en w30 ⟨rfl, rfl⟩
            go_wp2_with fail
            refine HLEFT.out.mono ?_
            rintro en w31 ⟨rfl, rfl⟩
            go_wp2_with fail
            go_roundw
            case rel => exact ⟨i + 1, at_ + 1, 0, by omega, by go_num, by go_num, by go_num, by rw [← HNB.out]; omega, by omega, HR5.out, hB5⟩
            case measure => simp [intOf]; omega

          · have hr0 := HR.out
            rw [List.drop_eq_nil_of_le (by rw [← HNB.out]; omega)] at hr0
            have HBY := Lib.hid (byte_none g wr hr0)
            clear hr0
            go_wp2_with fail
            refine HTK.out.mono ?_
            rintro en w4 ⟨rfl, rfl⟩

            go_wp2_with fail
            refine HBY.out.mono ?_
            rintro en w5 ⟨rfl, hr5, hg5⟩
            have hB5 : Below w.heap.size w w5 := hB.trans (grown_below hg5 hB.size hgw)
            have HR5 := Lib.hid (show Rdr w5 g (b.drop at_) 11 by rw [List.drop_eq_nil_of_le (by rw [← HNB.out]; omega)]; exact hr5)
            clear hr5 hg5 HBY
            go_wp2_with fail
            refine (first_zero 11 w5).mono ?_
            rintro en w6 ⟨rfl, rfl⟩
            have HERR := Lib.hid (err_any g _ _ w6 HR5.out)
            have HLEFT := Lib.hid (left_any g _ _ w6 HR5.out)
            obtain ⟨d, hd⟩ : ∃ d, d = (b.drop at_).length := ⟨_, rfl⟩
            rw [← hd] at HLEFT
            have hsub : (nb : Int) - ((at_ : Int)) = (d : Int) := by rw [hd, List.length_drop, ← HNB.out]; omega
            clear hd

            go_wp2_with fail
            refine HERR.out.mono ?_
            rintro en w30 ⟨rfl, rfl⟩
            go_wp2_with fail
            refine HLEFT.out.mono ?_
            rintro en w31 ⟨rfl, rfl⟩
            go_wp2_with fail
            go_roundw
            case rel => exact ⟨i + 1, at_, 11, by omega, by go_num, by go_num, by go_num, by rw [← HNB.out]; omega, by omega, HR5.out, hB5⟩
            case measure => simp [intOf]; omega

        · have HBY := Lib.hid (byte_stuck g er _ wr HR.out he0)
          have hene : ((er : Int) == 0) = false := by rw [beq_eq_false_iff_ne]; omega
          go_wp2_with fail
          refine HTK.out.mono ?_
          rintro en w4 ⟨rfl, rfl⟩

          go_wp2_with fail
          refine HBY.out.mono ?_
          rintro en w5 ⟨rfl, rfl⟩
          go_wp2_with fail
          refine (first_keep er 11 w5 he0).mono ?_
          rintro en w6 ⟨rfl, rfl⟩
          have HERR := Lib.hid (err_any g _ _ w6 HR.out)
          have HLEFT := Lib.hid (left_any g _ _ w6 HR.out)
          obtain ⟨d, hd⟩ : ∃ d, d = (b.drop at_).length := ⟨_, rfl⟩
          rw [← hd] at HLEFT
          have hsub : (nb : Int) - ((at_ : Int)) = (d : Int) := by rw [hd, List.length_drop, ← HNB.out]; omega
          clear hd

          go_wp2_with fail
          refine HERR.out.mono ?_
          rintro en w30 ⟨rfl, rfl⟩
          go_wp2_with fail
          refine HLEFT.out.mono ?_
          rintro en w31 ⟨rfl, rfl⟩
          go_wp2_with fail
          go_roundw
          case rel => exact ⟨i + 1, at_, er, by omega, by go_num, by go_num, by go_num, by rw [← HNB.out]; omega, by omega, HR.out, hB⟩
          case measure => simp [intOf]; omega
      · have hk3' : (kd : Int) % 3 = 2 := by omega
        clear hk3

        obtain ⟨rn0, rk0, rc0, hrd0⟩ : ∃ rn rk rc, rd m (b.drop at_) = (rn, rk, rc) := ⟨_, _, _, rfl⟩
        rw [hrd0] at HTK
        clear hrd0 hrdw
        obtain ⟨kz, mm, hkz, hkz1, hmx, hmm, hmz⟩ := as_int m hm
        have HTK2 := Lib.hid (refTake_any (.slice A nb cap) b at_ mm wr HVB.out (by have := HL.out; omega) (by rw [← HNB.out]; exact hat))
        have hrdw := rd_ways mm (b.drop at_)

        rcases hrdw with ⟨c, hrd, hc⟩ | ⟨rn, rk, hrd, hn1, hn64, hk0, hk10, hkl⟩
        · rw [hrd] at HTK2
          have hcne : ((c : Int) == 0) = false := by rw [beq_eq_false_iff_ne]; omega
          have hc12 : c ≤ 12 := by omega
          by_cases he0 : er = 0
          · subst he0
            have HTX := Lib.hid (text_no g kz c (b.drop at_) wr HR.out hkz1 (by rw [hmz]; exact hrd) hc)
            clear hrd hc hmz
            go_wp2_with fail
            refine HTK.out.mono ?_
            rintro en w4 ⟨rfl, rfl⟩

            go_wp2_with fail
            refine HTK2.out.mono ?_
            rintro en w5 ⟨rfl, rfl⟩
            go_wp2_with fail

            refine HTX.out.mono ?_
            rintro en w6 ⟨rfl, hr6, hg6⟩
            have hB6 : Below w.heap.size w w6 := hB.trans (grown_below hg6 hB.size hgw)
            have HR6 := Lib.hid hr6
            clear hr6 hg6
            go_wp2_with fail
            refine (first_zero c w6).mono ?_
            rintro en w7 ⟨rfl, rfl⟩
            have HERR := Lib.hid (err_any g _ _ w7 HR6.out)
            have HLEFT := Lib.hid (left_any g _ _ w7 HR6.out)
            obtain ⟨d, hd⟩ : ∃ d, d = (b.drop at_).length := ⟨_, rfl⟩
            rw [← hd] at HLEFT
            have hsub : (nb : Int) - ((at_ : Int)) = (d : Int) := by rw [hd, List.length_drop, ← HNB.out]; omega
            clear hd

            go_wp2_with fail
            refine HERR.out.mono ?_
            rintro en w30 ⟨rfl, rfl⟩
            go_wp2_with fail
            refine HLEFT.out.mono ?_
            rintro en w31 ⟨rfl, rfl⟩
            go_wp2_with fail
            go_roundw
            case rel => exact ⟨i + 1, at_, c, by omega, by go_num, by go_num, by go_num, by rw [← HNB.out]; omega, by omega, HR6.out, hB6⟩
            case measure => simp [intOf]; omega

          · have HTX := Lib.hid (text_stuck g er _ kz wr HR.out he0)
            have hene : ((er : Int) == 0) = false := by rw [beq_eq_false_iff_ne]; omega
            clear hrd hc hmz
            go_wp2_with fail
            refine HTK.out.mono ?_
            rintro en w4 ⟨rfl, rfl⟩

            go_wp2_with fail
            refine HTK2.out.mono ?_
            rintro en w5 ⟨rfl, rfl⟩
            go_wp2_with fail

            refine HTX.out.mono ?_
            rintro en w6 ⟨rfl, rfl⟩
            go_wp2_with fail
            refine (first_keep er c w6 he0).mono ?_
            rintro en w7 ⟨rfl, rfl⟩
            have HERR := Lib.hid (err_any g _ _ w7 HR.out)
            have HLEFT := Lib.hid (left_any g _ _ w7 HR.out)
            obtain ⟨d, hd⟩ : ∃ d, d = (b.drop at_).length := ⟨_, rfl⟩
            rw [← hd] at HLEFT
            have hsub : (nb : Int) - ((at_ : Int)) = (d : Int) := by rw [hd, List.length_drop, ← HNB.out]; omega
            clear hd

            go_wp2_with fail
            refine HERR.out.mono ?_
            rintro en w30 ⟨rfl, rfl⟩
            go_wp2_with fail
            refine HLEFT.out.mono ?_
            rintro en w31 ⟨rfl, rfl⟩
            go_wp2_with fail
            go_roundw
            case rel => exact ⟨i + 1, at_, er, by omega, by go_num, by go_num, by go_num, by rw [← HNB.out]; omega, by omega, HR.out, hB⟩
            case measure => simp [intOf]; omega

        · rw [hrd] at HTK2
          have hkl' := hkl
          rw [List.length_drop, ← HNB.out] at hkl'
          obtain ⟨df, hdf⟩ : ∃ df, df + at_ + rk = nb := ⟨nb - at_ - rk, by omega⟩
          have hsb1 : (nb : Int) - (at_ : Int) - (rk : Int) = (df : Int) := by omega
          have hrn63 : rn ≤ 9223372036854775807 := by omega
          have hdl2 : (b.drop at_).length - rk = df := by rw [List.length_drop, ← HNB.out]; omega
          by_cases hsh : df < rn
          · by_cases he0 : er = 0
            · subst he0
              have HTX := Lib.hid (text_short g kz rn rk (b.drop at_) wr HR.out hkz1 (by have := HDL.out; omega) (by rw [hmz]; exact hrd) hn64 hkl (by rw [hdl2]; exact hsh))
              clear hrd hmz hkl hdl2
              go_wp2_with fail
              refine HTK.out.mono ?_
              rintro en w4 ⟨rfl, rfl⟩

              go_wp2_with fail
              refine HTK2.out.mono ?_
              rintro en w5 ⟨rfl, rfl⟩
              go_wp2_with fail

              refine HTX.out.mono ?_
              rintro en w6 ⟨rfl, hr6, hg6⟩
              have hB6 : Below w.heap.size w w6 := hB.trans (grown_below hg6 hB.size hgw)
              have HR6 := Lib.hid hr6
              clear hr6 hg6
              go_wp2_with fail
              refine (first_zero 11 w6).mono ?_
              rintro en w7 ⟨rfl, rfl⟩
              have HERR := Lib.hid (err_any g _ _ w7 HR6.out)
              have HLEFT := Lib.hid (left_any g _ _ w7 HR6.out)
              obtain ⟨d, hd⟩ : ∃ d, d = (b.drop at_).length := ⟨_, rfl⟩
              rw [← hd] at HLEFT
              have hsub : (nb : Int) - ((at_ : Int)) = (d : Int) := by rw [hd, List.length_drop, ← HNB.out]; omega
              clear hd

              go_wp2_with fail
              refine HERR.out.mono ?_
              rintro en w30 ⟨rfl, rfl⟩
              go_wp2_with fail
              refine HLEFT.out.mono ?_
              rintro en w31 ⟨rfl, rfl⟩
              go_wp2_with fail
              go_roundw
              case rel => exact ⟨i + 1, at_, 11, by omega, by go_num, by go_num, by go_num, by rw [← HNB.out]; omega, by omega, HR6.out, hB6⟩
              case measure => simp [intOf]; omega

            · have HTX := Lib.hid (text_stuck g er _ kz wr HR.out he0)
              have hene : ((er : Int) == 0) = false := by rw [beq_eq_false_iff_ne]; omega
              clear hrd hmz hkl hdl2
              go_wp2_with fail
              refine HTK.out.mono ?_
              rintro en w4 ⟨rfl, rfl⟩

              go_wp2_with fail
              refine HTK2.out.mono ?_
              rintro en w5 ⟨rfl, rfl⟩
              go_wp2_with fail

              refine HTX.out.mono ?_
              rintro en w6 ⟨rfl, rfl⟩
              go_wp2_with fail
              refine (first_keep er 11 w6 he0).mono ?_
              rintro en w7 ⟨rfl, rfl⟩
              have HERR := Lib.hid (err_any g _ _ w7 HR.out)
              have HLEFT := Lib.hid (left_any g _ _ w7 HR.out)
              obtain ⟨d, hd⟩ : ∃ d, d = (b.drop at_).length := ⟨_, rfl⟩
              rw [← hd] at HLEFT
              have hsub : (nb : Int) - ((at_ : Int)) = (d : Int) := by rw [hd, List.length_drop, ← HNB.out]; omega
              clear hd

              go_wp2_with fail
              refine HERR.out.mono ?_
              rintro en w30 ⟨rfl, rfl⟩
              go_wp2_with fail
              refine HLEFT.out.mono ?_
              rintro en w31 ⟨rfl, rfl⟩
              go_wp2_with fail
              go_roundw
              case rel => exact ⟨i + 1, at_, er, by omega, by go_num, by go_num, by go_num, by rw [← HNB.out]; omega, by omega, HR.out, hB⟩
              case measure => simp [intOf]; omega

          · by_cases he0 : er = 0
            · subst he0
              obtain ⟨lo, hlo⟩ : ∃ lo, lo = at_ + rk := ⟨_, rfl⟩
              obtain ⟨hi2, hhi⟩ : ∃ hi2, hi2 = lo + rn := ⟨_, rfl⟩
              have HTX := Lib.hid (text_yes g kz rn rk (b.drop at_) wr HR.out hkz1 (by have := HDL.out; omega) (by rw [hmz]; exact hrd) hkl (by rw [hdl2]; exact hsh))
              simp only [List.drop_drop] at HTX
              rw [← hlo, ← hhi] at HTX
              have hadd1 : (at_ : Int) + (rk : Int) = (lo : Int) := by omega
              have hadd2 : (lo : Int) + (rn : Int) = (hi2 : Int) := by omega
              have hlen : hi2 - lo = rn := by omega
              have hhb : hi2 ≤ nb := by omega
              have hlohi : lo ≤ hi2 := by omega
              have hlen2 : ((b.drop lo).take rn).length = rn := by rw [List.length_take, List.length_drop, ← HNB.out]; omega
              obtain ⟨bd, rfl⟩ : ∃ bd, A = some bd := by
                obtain ⟨bd, e, _⟩ := HS.out at_ _ (bs_at (List.getElem?_eq_getElem (show at_ < b.length by rw [← HNB.out]; omega)))
                exact ⟨bd, e⟩
              have HSBT := Lib.hid (show ∀ W, Below w.heap.size w W → SB W (.slice (some (bd.add lo)) rn (cap - lo)) ((b.drop lo).take rn) from fun W hW =>
                ⟨some (bd.add lo), cap - lo, by rw [hlen2], by rw [hlen2]; omega, by rw [bs_take, bs_drop]; exact ((HS.out.below hW).drop lo).take rn⟩)
              have HSBN := Lib.hid (show cap = lo → ∀ W, SB W (.slice (some bd) rn 0) ((b.drop lo).take rn) from fun hc W =>
                ⟨some bd, 0, by rw [hlen2], by rw [hlen2]; omega, by
                  rw [show (b.drop lo).take rn = [] from List.eq_nil_of_length_eq_zero (by rw [hlen2]; omega)]
                  exact Sees.nil _ _⟩)
              clear hrd hmz hkl hdl2 hlen2 hlo hhi
              generalize (b.drop lo).take rn = tx at *
              go_wp2_with fail
              refine HTK.out.mono ?_
              rintro en w4 ⟨rfl, rfl⟩

              go_wp2_with fail
              refine HTK2.out.mono ?_
              rintro en w5 ⟨rfl, rfl⟩
              go_wp2_with fail

              refine HTX.out.mono ?_
              rintro en w6 ⟨rfl, hr6, hg6⟩
              have hB6 : Below w.heap.size w w6 := hB.trans (grown_below hg6 hB.size hgw)
              have HR6 := Lib.hid hr6
              clear hr6 hg6
              have HERR := Lib.hid (err_any g _ _ w6 HR6.out)
              have HLEFT := Lib.hid (left_any g _ _ w6 HR6.out)
              obtain ⟨d, hd⟩ : ∃ d, d = (b.drop hi2).length := ⟨_, rfl⟩
              rw [← hd] at HLEFT
              have hsub : (nb : Int) - ((hi2 : Int)) = (d : Int) := by rw [hd, List.length_drop, ← HNB.out]; omega
              clear hd

              by_cases hcl : cap = lo
              · subst hcl
                have hcv := sb_to_string (HSBN.out rfl w6)
                go_wp2_with fail
                refine HERR.out.mono ?_
                rintro en w30 ⟨rfl, rfl⟩
                go_wp2_with fail
                refine HLEFT.out.mono ?_
                rintro en w31 ⟨rfl, rfl⟩
                go_wp2_with fail
                go_roundw
                case rel => exact ⟨i + 1, hi2, 0, by omega, by go_num, by go_num, by go_num, by rw [← HNB.out]; omega, by omega, HR6.out, hB6⟩
                case measure => simp [intOf]; omega
              · have hcv := sb_to_string (HSBT.out w6 hB6)
                go_wp2_with fail
                refine HERR.out.mono ?_
                rintro en w30 ⟨rfl, rfl⟩
                go_wp2_with fail
                refine HLEFT.out.mono ?_
                rintro en w31 ⟨rfl, rfl⟩
                go_wp2_with fail
                go_roundw
                case rel => exact ⟨i + 1, hi2, 0, by omega, by go_num, by go_num, by go_num, by rw [← HNB.out]; omega, by omega, HR6.out, hB6⟩
                case measure => simp [intOf]; omega
            · have HTX := Lib.hid (text_stuck g er _ kz wr HR.out he0)
              have hene : ((er : Int) == 0) = false := by rw [beq_eq_false_iff_ne]; omega
              clear hrd hmz hkl hdl2
              go_wp2_with fail
              refine HTK.out.mono ?_
              rintro en w4 ⟨rfl, rfl⟩

              go_wp2_with fail
              refine HTK2.out.mono ?_
              rintro en w5 ⟨rfl, rfl⟩
              go_wp2_with fail

              refine HTX.out.mono ?_
              rintro en w6 ⟨rfl, rfl⟩
              go_wp2_with fail
              refine (first_keep er 0 w6 he0).mono ?_
              rintro en w7 ⟨rfl, rfl⟩
              have HERR := Lib.hid (err_any g _ _ w7 HR.out)
              have HLEFT := Lib.hid (left_any g _ _ w7 HR.out)
              obtain ⟨d, hd⟩ : ∃ d, d = (b.drop at_).length := ⟨_, rfl⟩
              rw [← hd] at HLEFT
              have hsub : (nb : Int) - ((at_ : Int)) = (d : Int) := by rw [hd, List.length_drop, ← HNB.out]; omega
              clear hd

              go_wp2_with fail
              refine HERR.out.mono ?_
              rintro en w30 ⟨rfl, rfl⟩
              go_wp2_with fail
              refine HLEFT.out.mono ?_
              rintro en w31 ⟨rfl, rfl⟩
              go_wp2_with fail
              go_roundw
              case rel => exact ⟨i + 1, at_, er, by omega, by go_num, by go_num, by go_num, by rw [← HNB.out]; omega, by omega, HR.out, hB⟩
              case measure => simp [intOf]; omega
    · have HEND := Lib.hid (end_any g er _ wr HR.out)
      by_cases hw : er = 0 ∧ at_ < nb
      · have he7 : endE (b.drop at_) er = 7 := by
          unfold endE
          rw [if_pos ⟨hw.1, by rw [List.length_drop, ← HNB.out]; omega⟩]
        rw [he7] at HEND
        obtain ⟨rfl, hatn⟩ := hw
        go_wp2_with fail
        refine HEND.out.mono ?_
        rintro en w5 ⟨rfl, rfl⟩
        go_wp2_with fail
        go_ret
        exact ⟨rfl, hB⟩
      · have hee : endE (b.drop at_) er = er := by
          unfold endE
          rw [if_neg (fun h => hw ⟨h.1, by have h2 := h.2; rw [List.length_drop, ← HNB.out] at h2; omega⟩)]
        rw [hee] at HEND
        clear hee
        by_cases he0 : er = 0
        · subst he0
          have hatn : ¬ at_ < nb := fun h => hw ⟨rfl, h⟩
          clear hw
          go_wp2_with fail
          refine HEND.out.mono ?_
          rintro en w5 ⟨rfl, rfl⟩
          go_wp2_with fail
          go_ret
          exact ⟨rfl, hB⟩
        · have hene : ((er : Int) == 0) = false := by rw [beq_eq_false_iff_ne]; omega
          clear hw
          go_wp2_with fail
          refine HEND.out.mono ?_
          rintro en w5 ⟨rfl, rfl⟩
          go_wp2_with fail
          go_ret
          exact ⟨by simp, hB⟩

theorem law4_any (v u : Value) (b : List UInt8) (acts : List (Nat × Nat)) (w : World) (hv : SB w v b) (hu : SA w u acts) (hl : b.length ≤ 9223372036854775807) (hn : acts.length ≤ 9223372036854775807) : Calls Try.prog 4 #[v, u] w (RetV w (.bool true)) := by
  by_cases h1 : 300 < b.length
  · exact law4_long v u b acts w hv hu h1 hl
  · by_cases h2 : 30 < acts.length
    · exact law4_many v u b acts w hv hu h1 h2 hn
    · exact law4_main v u b acts w hv hu (by omega) (by omega)

end Go.Proofs.Ytolplnlfekledaa
