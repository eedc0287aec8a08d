/- The walk of the statement PermRanks: it answers true. -/
import Derived.Test.YtlmpiadmgjfaiaaNext1
import Derived.Test.YtlmpiadmgjfaiaaRead3
namespace Go.Proofs.Ytlmpiadmgjfaiaa
open Go.RowKit PermMath

set_option maxRecDepth 100000 in
set_option maxHeartbeats 2000000 in
theorem law7_no (v : Value) (xs : List Int) (z r : Int) (w : World) (h : SI w v xs) (hn : xs.length ≤ 40) (hr : ¬ Rt xs) : Calls Try.prog 7 #[v, .int .i64 z, .int .i64 r] w (RetV w (.bool true)) := by
  have H1 := Lib.hid (fun w1 (hb : Below w.heap.size w w1) => rank_no v xs w1 (h.below hb) (by omega) hr)
  have H2 := Lib.hid (fun w1 (hb : Below w.heap.size w w1) => refRight_any v xs w1 (h.below hb) (by omega))
  rw [rightB_no.2 hr] at H2
  obtain ⟨A, cap, rfl, hcap, hs⟩ := h
  clear hs hr
  generalize xs.length = n at *
  go_enter Try.func7, Try.ntmps7
  go_wp2_with fail
  refine (alive_any w).mono ?_
  rintro e w1 ⟨rfl, hb1⟩
  go_wp2_with fail
  refine (H1.out w1 hb1).mono ?_
  rintro e w2 ⟨rfl, rfl⟩
  go_wp2_with fail
  refine (H2.out w1 hb1).mono ?_
  rintro e w2 ⟨rfl, rfl⟩
  go_wp2_with fail
  by_cases hz0 : z < 0
  · refine (of_no z r w1 (fun h => by omega)).mono ?_
    rintro e wz ⟨rfl, hbz⟩
    have HBZ := Lib.hid (Below.step hb1 hbz)
    clear hbz
    go_wp2
    go_ret
    exact ⟨rfl, HBZ.out⟩
  · by_cases hz16 : 16 < z
    · refine (of_no z r w1 (fun h => by omega)).mono ?_
      rintro e wz ⟨rfl, hbz⟩
      have HBZ := Lib.hid (Below.step hb1 hbz)
      clear hbz
      go_wp2
      go_ret
      exact ⟨rfl, HBZ.out⟩
    · by_cases hr0 : r < 0
      · refine (of_no z r w1 (fun h => by omega)).mono ?_
        rintro e wz ⟨rfl, hbz⟩
        have HBZ := Lib.hid (Below.step hb1 hbz)
        clear hbz
        go_wp2
        go_ret
        exact ⟨rfl, HBZ.out⟩
      · obtain ⟨n2, rfl⟩ := Int.eq_ofNat_of_zero_le (show 0 ≤ z by omega)
        obtain ⟨r2, rfl⟩ := Int.eq_ofNat_of_zero_le (show 0 ≤ r by omega)
        have HAL := Lib.hid (fun w1 => refAll_any (n2 : Int) w1 (by omega) (by omega))
        rw [Int.toNat_natCast] at HAL
        by_cases hrf : fac n2 ≤ r2
        · have hno := of_no (n2 : Int) (r2 : Int) w1 (fun h => by rw [Int.toNat_natCast] at h; omega)
          obtain ⟨f, hf⟩ : ∃ f, f = fac n2 := ⟨_, rfl⟩
          rw [← hf] at hrf HAL
          refine hno.mono ?_
          clear hno hf
          rintro e wz ⟨rfl, hbz⟩
          have HBZ := Lib.hid (Below.step hb1 hbz)
          clear hbz
          go_wp2_with fail
          refine (HAL.out wz).mono ?_
          rintro e wy ⟨rfl, rfl⟩
          go_wp2
          go_ret
          exact ⟨rfl, HBZ.out⟩
        · have hyes := of_yes n2 r2 w1 (by omega) (by omega)
          have hun := un_perm (rng_len n2) (show r2 < fac n2 by omega)
          have hrk := rk_un (rng_len n2) (rng_inc n2) (show r2 < fac n2 by omega)
          have hln := un_len n2 (rng n2) r2
          generalize un n2 (rng n2) r2 = uu at *
          have hRt : Rt uu := ⟨by omega, by rw [hln]; exact hun⟩
          have HRT := Lib.hid hRt
          have HRK := Lib.hid hrk
          have HLN := Lib.hid hln
          clear hun hrk hln hRt
          obtain ⟨f, hf⟩ : ∃ f, f = fac n2 := ⟨_, rfl⟩
          rw [← hf] at hrf HAL
          clear hf
          refine hyes.mono ?_
          clear hyes
          rintro e wz ⟨vz, rfl, hownz, hbz⟩
          have HBZ := Lib.hid (Below.step hb1 hbz)
          have hra := rank_yes vz uu wz hownz.si HRT.out
          rw [HRK.out] at hra
          have HRA := Lib.hid hra
          obtain ⟨Az, cz, rfl, _⟩ := own_slice hownz
          rw [HLN.out] at HRA
          rw [HLN.out]
          clear hbz hownz hra
          go_wp2_with fail
          refine (HAL.out wz).mono ?_
          rintro e wy ⟨rfl, rfl⟩
          go_wp2_with fail
          refine HRA.out.mono ?_
          rintro e wy ⟨rfl, rfl⟩
          go_wp2
          go_ret
          exact ⟨rfl, HBZ.out⟩

set_option maxRecDepth 100000 in
set_option maxHeartbeats 4000000 in
theorem law7_yes (v : Value) (xs : List Int) (z r : Int) (w : World) (h : SI w v xs) (hr : Rt xs) : Calls Try.prog 7 #[v, .int .i64 z, .int .i64 r] w (RetV w (.bool true)) := by
  have h16 := hr.1
  have H1 := Lib.hid (fun w1 (hb : Below w.heap.size w w1) => rank_yes v xs w1 (h.below hb) hr)
  have H2 := Lib.hid (fun w1 (hb : Below w.heap.size w w1) => refRight_any v xs w1 (h.below hb) (by omega))
  rw [rightB_iff.2 hr] at H2
  have H3 := Lib.hid (fun w1 => of_yes xs.length (rk xs) w1 h16 (rk_lt xs))
  rw [un_rk (rng_inc _) hr.2 (rng_len _)] at H3
  have H4 := Lib.hid (fun w1 (hb : Below w.heap.size w w1) => next_any v xs w1 (h.below hb) hr)
  have H5 := Lib.hid (fun w1 (hb : Below w.heap.size w w1) (x : Value) (hx : SI w1 x xs) => refSame_any x v xs xs w1 hx (h.below hb) (by omega) (by omega))
  rw [decide_eq_true rfl] at H5
  have H6 := Lib.hid (fun w1 => refSelf_any xs.length w1 h16)
  have H7 := Lib.hid (fun w1 (x : Value) (hx : SI w1 x (rng xs.length)) => rank_yes x (rng xs.length) w1 hx ⟨by rw [rng_len]; exact h16, by rw [rng_len]⟩)
  rw [rk_inc (rng_inc _)] at H7
  have H8 := Lib.hid (fun w1 => refAll_any (xs.length : Int) w1 (by omega) (by omega))
  rw [Int.toNat_natCast] at H8
  have H9 : Hid (xs.Pairwise (· > ·) → rk xs + 1 = fac xs.length) := fun h => rk_dec h
  have hR : (rk xs : Int) ≤ 20922789888000 := by
    have h1 := rk_lt xs
    have h2 := fac_small h16
    omega
  have H10 := Lib.hid (fun w1 => rank_yes (.slice none 0 0) [] w1 (SI.nil w1) ⟨by decide, by decide⟩)
  obtain ⟨A, cap, rfl, hcap, hs⟩ := h
  clear hs hr
  obtain ⟨R, hRe⟩ : ∃ R, R = rk xs := ⟨_, rfl⟩
  rw [← hRe] at H1 H3 H9 hR
  obtain ⟨F, hFe⟩ : ∃ F, F = fac xs.length := ⟨_, rfl⟩
  rw [← hFe] at H8 H9
  have HRE := Lib.hid hRe
  clear hRe hFe
  obtain ⟨n, hnx⟩ : ∃ n, n = xs.length := ⟨_, rfl⟩
  rw [← hnx] at hcap h16 H1 H2 H3 H4 H5 H6 H7 H8 ⊢
  clear hnx
  have hR0 : decide ((R : Int) < 0) = false := decide_eq_false (by omega)
  go_enter Try.func7, Try.ntmps7
  go_wp2_with fail
  refine (alive_any w).mono ?_
  rintro e w1 ⟨rfl, hb1⟩
  go_wp2_with fail
  refine (H1.out w1 hb1).mono ?_
  rintro e w2 ⟨rfl, rfl⟩
  go_wp2_with fail
  refine (H2.out w1 hb1).mono ?_
  rintro e w2 ⟨rfl, rfl⟩
  go_wp2_with fail
  refine (H3.out w1).mono ?_
  rintro e w2 ⟨v2, rfl, ho2, hb2⟩
  have hbw2 := Below.step hb1 hb2
  have P2 := Lib.hid ho2
  clear hb1 hb2 ho2
  go_wp2_with fail
  refine (H4.out w2 hbw2).mono ?_
  rintro e w3 hpost
  rcases hpost with ⟨hdec, rfl, hb3⟩ | ⟨l, hlr, hlk, v3, rfl, ho3, hb3⟩
  · have hRF := H9.out hdec
    have hbw3 := Below.step hbw2 hb3
    have P23 := Lib.hid (P2.out.below hb3)
    have hne : ((R : Int) != (F : Int) - 1) = false := by rw [bne_eq_false_iff_eq]; omega
    have hFs : (F : Int) ≤ 20922789888001 := by omega
    have hF1 : 1 ≤ (F : Int) := by omega
    clear hdec hbw2 hb3 hRF
    go_wp2_with fail
    refine (H5.out w3 hbw3 v2 P23.out.si).mono ?_
    rintro e w4 ⟨rfl, hb4⟩
    have hbw4 := Below.step hbw3 hb4
    clear hbw3 hb4
    go_wp2_with fail
    refine (H8.out w4).mono ?_
    rintro e w5 ⟨rfl, rfl⟩
    go_wp2_with fail
    refine (H10.out w4).mono ?_
    rintro e w5 ⟨rfl, rfl⟩
    go_wp2_with fail
    refine (H6.out w4).mono ?_
    rintro e w5 ⟨v5, rfl, ho5, hb5⟩
    have hbw5 := Below.step hbw4 hb5
    have P5 := Lib.hid ho5
    clear hbw4 hb5 ho5
    go_wp2_with fail
    refine (H7.out w5 v5 P5.out.si).mono ?_
    rintro e w6 ⟨rfl, rfl⟩
    clear hne hFs hF1
    go_wp2_with fail
    by_cases hz0 : z < 0
    · refine (of_no z r w5 (fun h => by omega)).mono ?_
      rintro e wz ⟨rfl, hbz⟩
      have HBZ := Lib.hid (Below.step hbw5 hbz)
      clear hbz
      go_wp2
      go_ret
      exact ⟨rfl, HBZ.out⟩
    · by_cases hz16 : 16 < z
      · refine (of_no z r w5 (fun h => by omega)).mono ?_
        rintro e wz ⟨rfl, hbz⟩
        have HBZ := Lib.hid (Below.step hbw5 hbz)
        clear hbz
        go_wp2
        go_ret
        exact ⟨rfl, HBZ.out⟩
      · by_cases hr0 : r < 0
        · refine (of_no z r w5 (fun h => by omega)).mono ?_
          rintro e wz ⟨rfl, hbz⟩
          have HBZ := Lib.hid (Below.step hbw5 hbz)
          clear hbz
          go_wp2
          go_ret
          exact ⟨rfl, HBZ.out⟩
        · obtain ⟨n2, rfl⟩ := Int.eq_ofNat_of_zero_le (show 0 ≤ z by omega)
          obtain ⟨r2, rfl⟩ := Int.eq_ofNat_of_zero_le (show 0 ≤ r by omega)
          have HAL := Lib.hid (fun w1 => refAll_any (n2 : Int) w1 (by omega) (by omega))
          rw [Int.toNat_natCast] at HAL
          by_cases hrf : fac n2 ≤ r2
          · have hno := of_no (n2 : Int) (r2 : Int) w5 (fun h => by rw [Int.toNat_natCast] at h; omega)
            obtain ⟨f, hf⟩ : ∃ f, f = fac n2 := ⟨_, rfl⟩
            rw [← hf] at hrf HAL
            refine hno.mono ?_
            clear hno hf
            rintro e wz ⟨rfl, hbz⟩
            have HBZ := Lib.hid (Below.step hbw5 hbz)
            clear hbz
            go_wp2_with fail
            refine (HAL.out wz).mono ?_
            rintro e wy ⟨rfl, rfl⟩
            go_wp2
            go_ret
            exact ⟨rfl, HBZ.out⟩
          · have hyes := of_yes n2 r2 w5 (by omega) (by omega)
            have hun := un_perm (rng_len n2) (show r2 < fac n2 by omega)
            have hrk := rk_un (rng_len n2) (rng_inc n2) (show r2 < fac n2 by omega)
            have hln := un_len n2 (rng n2) r2
            generalize un n2 (rng n2) r2 = uu at *
            have hRt : Rt uu := ⟨by omega, by rw [hln]; exact hun⟩
            have HRT := Lib.hid hRt
            have HRK := Lib.hid hrk
            have HLN := Lib.hid hln
            clear hun hrk hln hRt
            obtain ⟨f, hf⟩ : ∃ f, f = fac n2 := ⟨_, rfl⟩
            rw [← hf] at hrf HAL
            clear hf
            refine hyes.mono ?_
            clear hyes
            rintro e wz ⟨vz, rfl, hownz, hbz⟩
            have HBZ := Lib.hid (Below.step hbw5 hbz)
            have hra := rank_yes vz uu wz hownz.si HRT.out
            rw [HRK.out] at hra
            have HRA := Lib.hid hra
            obtain ⟨Az, cz, rfl, _⟩ := own_slice hownz
            rw [HLN.out] at HRA
            rw [HLN.out]
            clear hbz hownz hra
            go_wp2_with fail
            refine (HAL.out wz).mono ?_
            rintro e wy ⟨rfl, rfl⟩
            go_wp2_with fail
            refine HRA.out.mono ?_
            rintro e wy ⟨rfl, rfl⟩
            go_wp2
            go_ret
            exact ⟨rfl, HBZ.out⟩
  · have hbw3 := Below.step hbw2 hb3
    have P23 := Lib.hid (P2.out.below hb3)
    have P3 := Lib.hid ho3
    have hra := fun w1 (hb : Below w3.heap.size w3 w1) => rank_yes v3 l w1 (ho3.below hb).si hlr
    rw [hlk, ← HRE.out] at hra
    have HRA : Hid (∀ w1, Below w3.heap.size w3 w1 → Calls Try.prog 24 #[v3] w1 (fun e w' => e = .returned (.tuple #[.int .i64 ((R : Int) + 1), .bool true]) ∧ w1 = w')) := hra
    clear hlr hlk hbw2 hb3 ho3 hra
    go_wp2_with fail
    refine (H5.out w3 hbw3 v2 P23.out.si).mono ?_
    rintro e w4 ⟨rfl, hb4⟩
    have hbw4 := Below.step hbw3 hb4
    have HR4 := Lib.hid (HRA.out w4 hb4)
    clear hbw3 hb4
    go_wp2_with fail
    refine HR4.out.mono ?_
    rintro e w5 ⟨rfl, rfl⟩
    go_wp2_with fail
    refine (H6.out w4).mono ?_
    rintro e w5 ⟨v5, rfl, ho5, hb5⟩
    have hbw5 := Below.step hbw4 hb5
    have P5 := Lib.hid ho5
    clear hbw4 hb5 ho5
    go_wp2_with fail
    refine (H7.out w5 v5 P5.out.si).mono ?_
    rintro e w6 ⟨rfl, rfl⟩
    go_wp2_with fail
    by_cases hz0 : z < 0
    · refine (of_no z r w5 (fun h => by omega)).mono ?_
      rintro e wz ⟨rfl, hbz⟩
      have HBZ := Lib.hid (Below.step hbw5 hbz)
      clear hbz
      go_wp2
      go_ret
      exact ⟨rfl, HBZ.out⟩
    · by_cases hz16 : 16 < z
      · refine (of_no z r w5 (fun h => by omega)).mono ?_
        rintro e wz ⟨rfl, hbz⟩
        have HBZ := Lib.hid (Below.step hbw5 hbz)
        clear hbz
        go_wp2
        go_ret
        exact ⟨rfl, HBZ.out⟩
      · by_cases hr0 : r < 0
        · refine (of_no z r w5 (fun h => by omega)).mono ?_
          rintro e wz ⟨rfl, hbz⟩
          have HBZ := Lib.hid (Below.step hbw5 hbz)
          clear hbz
          go_wp2
          go_ret
          exact ⟨rfl, HBZ.out⟩
        · obtain ⟨n2, rfl⟩ := Int.eq_ofNat_of_zero_le (show 0 ≤ z by omega)
          obtain ⟨r2, rfl⟩ := Int.eq_ofNat_of_zero_le (show 0 ≤ r by omega)
          have HAL := Lib.hid (fun w1 => refAll_any (n2 : Int) w1 (by omega) (by omega))
          rw [Int.toNat_natCast] at HAL
          by_cases hrf : fac n2 ≤ r2
          · have hno := of_no (n2 : Int) (r2 : Int) w5 (fun h => by rw [Int.toNat_natCast] at h; omega)
            obtain ⟨f, hf⟩ : ∃ f, f = fac n2 := ⟨_, rfl⟩
            rw [← hf] at hrf HAL
            refine hno.mono ?_
            clear hno hf
            rintro e wz ⟨rfl, hbz⟩
            have HBZ := Lib.hid (Below.step hbw5 hbz)
            clear hbz
            go_wp2_with fail
            refine (HAL.out wz).mono ?_
            rintro e wy ⟨rfl, rfl⟩
            go_wp2
            go_ret
            exact ⟨rfl, HBZ.out⟩
          · have hyes := of_yes n2 r2 w5 (by omega) (by omega)
            have hun := un_perm (rng_len n2) (show r2 < fac n2 by omega)
            have hrk := rk_un (rng_len n2) (rng_inc n2) (show r2 < fac n2 by omega)
            have hln := un_len n2 (rng n2) r2
            generalize un n2 (rng n2) r2 = uu at *
            have hRt : Rt uu := ⟨by omega, by rw [hln]; exact hun⟩
            have HRT := Lib.hid hRt
            have HRK := Lib.hid hrk
            have HLN := Lib.hid hln
            clear hun hrk hln hRt
            obtain ⟨f, hf⟩ : ∃ f, f = fac n2 := ⟨_, rfl⟩
            rw [← hf] at hrf HAL
            clear hf
            refine hyes.mono ?_
            clear hyes
            rintro e wz ⟨vz, rfl, hownz, hbz⟩
            have HBZ := Lib.hid (Below.step hbw5 hbz)
            have hra := rank_yes vz uu wz hownz.si HRT.out
            rw [HRK.out] at hra
            have HRA := Lib.hid hra
            obtain ⟨Az, cz, rfl, _⟩ := own_slice hownz
            rw [HLN.out] at HRA
            rw [HLN.out]
            clear hbz hownz hra
            go_wp2_with fail
            refine (HAL.out wz).mono ?_
            rintro e wy ⟨rfl, rfl⟩
            go_wp2_with fail
            refine HRA.out.mono ?_
            rintro e wy ⟨rfl, rfl⟩
            go_wp2
            go_ret
            exact ⟨rfl, HBZ.out⟩

set_option maxRecDepth 100000 in
set_option maxHeartbeats 800000 in
theorem law7_any (v : Value) (xs : List Int) (z r : Int) (w : World) (h : SI w v xs) : Calls Try.prog 7 #[v, .int .i64 z, .int .i64 r] w (RetV w (.bool true)) := by
  by_cases h1 : 40 < xs.length
  · obtain ⟨A, cap, rfl, hcap, hs⟩ := h
    clear hs
    generalize xs.length = n at *
    go_enter Try.func7, Try.ntmps7
    go_wp2_with fail
    refine (alive_any w).mono ?_
    rintro e w1 ⟨rfl, hb1⟩
    go_wp2
    go_ret
    exact ⟨rfl, hb1⟩
  · by_cases hr : Rt xs
    · exact law7_yes v xs z r w h hr
    · exact law7_no v xs z r w h (by omega) hr

end Go.Proofs.Ytlmpiadmgjfaiaa
