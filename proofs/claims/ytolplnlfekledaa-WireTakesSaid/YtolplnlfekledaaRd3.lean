/- The number that bytes begin with; no statement of the seat. -/
import Derived.Test.YtolplnlfekledaaRd2
namespace Go.Proofs.Ytolplnlfekledaa
open Go.RowKit WireMath
set_option maxHeartbeats 1000000
set_option maxRecDepth 100000

theorem andnot_all : ∀ a : Fin 256, bits .andNot .u8 ((a.val : Nat) : Int) 128 = ((a.val % 128 : Nat) : Int) := by decide +kernel
theorem andnot128 {a : Nat} (h : a < 256) : bits .andNot .u8 (a : Int) 128 = ((a % 128 : Nat) : Int) := andnot_all ⟨a, h⟩

def ReadRel (w : World) (l : List UInt8) (n _p _x i : Value) (wr : World) : Prop :=
  ∃ k : Nat, k ≤ 9 ∧ k ≤ l.length ∧ i = .int .i64 (k : Int) ∧ n = .int .u64 (val (l.take k) : Int) ∧ (∀ j, j < k → ∃ x, l[j]? = some x ∧ 128 ≤ x.toNat) ∧ w = wr

theorem or_shift {acc r k : Nat} (h1 : acc < 128 ^ k) (h1' : acc < 18446744073709551616) (h2 : 128 ^ k * r < 18446744073709551616) : bits .or .u64 (acc : Int) (IntKind.u64.wrap ((r : Int) * 2 ^ (7 * k))) = ((acc + 128 ^ k * r : Nat) : Int) := by
  have e : (2 : Nat) ^ (7 * k) = 128 ^ k := by rw [Nat.pow_mul]
  have e' : ((2 : Int) ^ (7 * k)) = ((128 ^ k : Nat) : Int) := by rw [← e]; simp
  have e2 : ((r : Int) * 2 ^ (7 * k)) = ((128 ^ k * r : Nat) : Int) := by rw [e', ← Int.natCast_mul, Nat.mul_comm]
  have hw : IntKind.u64.wrap ((r : Int) * 2 ^ (7 * k)) = ((128 ^ k * r : Nat) : Int) := by
    rw [e2, IntKind.wrap_u64]
    omega
  have hj := bits_join_low .u64 64 (by decide) wraps_u64 (7 * k) (acc : Int) ((128 ^ k * r : Nat) : Int) (by omega) (by rw [e']; omega) (by omega) (by omega) (by rw [e', ← Int.natCast_emod, Nat.mul_mod_right]; rfl) (by omega)
  rw [hw, hj]
  omega

theorem val_lt64 {n k : Nat} (hk : k ≤ 9) (h : n < 128 ^ k) : n < 18446744073709551616 := by
  have h1 : (128 : Nat) ^ k ≤ 128 ^ 9 := Nat.pow_le_pow_right (by omega) hk
  have h2 : (128 : Nat) ^ 9 = 9223372036854775808 := by decide
  omega
theorem val_u64' {l : List UInt8} {i : Nat} {x : UInt8} (hi : i ≤ 9) (hl : l[i]? = some x) (hok : okLast i x.toNat = true) : val (l.take i) < 128 ^ i ∧ 128 ^ i * (x.toNat % 128) < 18446744073709551616 := by
  have h1 := val_lt (l.take i)
  have hil := (List.getElem?_eq_some_iff.1 hl).1
  rw [List.length_take, Nat.min_eq_left (by omega)] at h1
  refine ⟨h1, ?_⟩
  rcases Nat.lt_or_ge i 9 with h9 | h9
  · have h2 := pow_le9 (i := i) (by omega)
    have h3 : 128 ^ i * (x.toNat % 128) ≤ 128 ^ i * 127 := Nat.mul_le_mul_left _ (by omega)
    omega
  · obtain rfl : i = 9 := by omega
    have hx1 : x.toNat = 1 := by simpa [okLast] using hok
    have h2 : (128 : Nat) ^ 9 = 9223372036854775808 := by decide
    rw [hx1, h2]
    omega

theorem read_any (v : Value) (l : List UInt8) (most : Nat) (w : World) (h : SB w v l) :
    Calls Try.prog 26 #[v, .int .u64 (most : Int)] w (fun en w' => en = .returned (.tuple #[.int .u64 ((rd most l).1 : Int), .int .i64 ((rd most l).2.1 : Int), .int .u8 ((rd most l).2.2 : Int)]) ∧ w' = w) := by
  obtain ⟨A, cap, rfl, hcap, hs⟩ := h
  have HS := Lib.hid hs
  clear hs
  obtain ⟨n, hn⟩ : ∃ n, n = l.length := ⟨_, rfl⟩
  rw [← hn] at hcap ⊢
  have HN := Lib.hid hn
  clear hn
  obtain ⟨R, hR⟩ : ∃ R, R = rd most l := ⟨_, rfl⟩
  rw [← hR]
  have HR := Lib.hid hR
  clear hR
  go_enter Try.func26, Try.ntmps26
  go_wp2_with fail
  go_loopw [4, 7, 8, 11] (ReadRel w l) (fun _ _ _ i _ => n - (intOf i).toNat)
  case atStart => exact ⟨0, by omega, Nat.zero_le _, rfl, rfl, fun j hj => by omega, rfl⟩
  case round =>
    obtain ⟨k, hk9, hkl, rfl, rfl, hall, rfl⟩ := hrel
    have HALL := Lib.hid hall
    rw [← HN.out] at hkl
    clear hall
    by_cases hlt : k < n
    · obtain ⟨x, hxk⟩ : ∃ x, l[k]? = some x := ⟨l[k]'(by have := HN.out; omega), List.getElem?_eq_getElem _⟩
      obtain ⟨ad, rfl, hbl, hcell⟩ := HS.out k _ (bs_at hxk)
      have HX := Lib.hid hxk
      clear hxk
      have hx := x.toNat_lt
      have HF := Lib.hid (fits_any k x.toNat w hk9 (by omega))
      by_cases hok : okLast k x.toNat = true
      · have han := andnot128 (a := x.toNat) (by omega)
        have hv := val_u64' hk9 HX.out hok
        have hor := or_shift hv.1 (val_lt64 (by omega) hv.1) hv.2
        rw [← val_take HX.out] at hor
        have HOK := Lib.hid hok
        rw [hok] at HF
        clear hok hv
        generalize val (l.take k) = acc at *
        obtain ⟨acc2, hacc2⟩ : ∃ acc2, acc2 = val (l.take (k + 1)) := ⟨_, rfl⟩
        rw [← hacc2] at hor
        have HA2 := Lib.hid hacc2
        clear hacc2
        by_cases ha : x.toNat < 128
        · have hrun := run_stop HALL.out HX.out ha
          have hrd := rd_of (most := most) hrun hk9
          rw [HX.out] at hrd
          simp only at hrd
          rw [HOK.out, if_neg (by simp), ← HA2.out, ← HR.out] at hrd
          have HRD := Lib.hid hrd
          clear hrd hrun HOK
          generalize x.toNat = a at *
          obtain ⟨r, hr⟩ : ∃ r, r = a % 128 := ⟨_, rfl⟩
          rw [← hr] at han hor
          have hr1 : r < 128 := by omega
          clear hr
          by_cases hm : most < acc2
          · have HE := Lib.hid (show R = (0, 0, 12) by rw [HRD.out, if_pos hm])
            go_wp2_with fail
            refine HF.out.mono ?_
            rintro en w2 ⟨rfl, rfl⟩
            go_wp2_with fail
            go_ret3
            rw [HE.out]
            exact ⟨rfl, rfl⟩
          · have HE := Lib.hid (show R = (acc2, k + 1, 0) by rw [HRD.out, if_neg hm])
            go_wp2_with fail
            refine HF.out.mono ?_
            rintro en w2 ⟨rfl, rfl⟩
            go_wp2_with fail
            go_ret3
            rw [HE.out]
            exact ⟨by simp, rfl⟩
        · have hk8 : k ≠ 9 := by
            rintro rfl
            have := HOK.out
            simp [okLast] at this
            omega
          have HALL2 := Lib.hid (show ∀ j, j < k + 1 → ∃ x, l[j]? = some x ∧ 128 ≤ x.toNat from fun j hj => by
            rcases Nat.lt_or_ge j k with h | h
            · exact HALL.out j h
            · obtain rfl : j = k := by omega
              exact ⟨x, HX.out, by omega⟩)
          clear HOK
          generalize x.toNat = a at *
          obtain ⟨r, hr⟩ : ∃ r, r = a % 128 := ⟨_, rfl⟩
          rw [← hr] at han hor
          have hr1 : r < 128 := by omega
          clear hr
          go_wp2_with fail
          refine HF.out.mono ?_
          rintro en w2 ⟨rfl, rfl⟩
          go_wp2_with fail
          go_roundw
          case rel => exact ⟨k + 1, by omega, by rw [← HN.out]; omega, by go_num, by rw [← HA2.out], HALL2.out, rfl⟩
          case measure => simp [intOf]; omega
      · have hok' : okLast k x.toNat = false := by simpa using hok
        have hrd : R = (0, 0, 7) := by
          rw [HR.out]
          by_cases ha : x.toNat < 128
          · rw [rd_of (run_stop HALL.out HX.out ha) hk9, HX.out]
            simp only
            rw [hok', if_pos rfl]
          · have hk8 : k = 9 := by
              rcases Nat.lt_or_ge k 9 with h | h
              · exfalso
                unfold okLast at hok'
                rw [if_neg (by omega)] at hok'
                simp at hok'
                omega
              · omega
            refine rd_long ?_
            have := run_ge l (k + 1) (fun j hj => by
              rcases Nat.lt_or_ge j k with h | h
              · exact HALL.out j h
              · obtain rfl : j = k := by omega
                exact ⟨x, HX.out, by omega⟩)
            omega
        have HE := Lib.hid hrd
        rw [hok'] at HF
        clear hrd hok hok'
        generalize x.toNat = a at *
        go_wp2_with fail
        refine HF.out.mono ?_
        rintro en w2 ⟨rfl, rfl⟩
        go_wp2_with fail
        go_ret3
        rw [HE.out]
        exact ⟨rfl, rfl⟩
    · have HE := Lib.hid (show R = (0, 0, 11) by
        have h1 : l[k]? = none := List.getElem?_eq_none (by have := HN.out; omega)
        rw [HR.out, rd_of (run_end HALL.out h1) hk9, h1])
      go_wp2_with fail
      go_ret3
      rw [HE.out]
      exact ⟨rfl, rfl⟩

end Go.Proofs.Ytolplnlfekledaa
