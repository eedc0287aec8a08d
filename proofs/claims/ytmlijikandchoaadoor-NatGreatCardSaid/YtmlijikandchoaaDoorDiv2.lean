/- What math/bits.Div64 tells: quotient and rest of two words by one that is greater than the first. -/
import Derived.Test.YtmlijikandchoaaDoorDiv1
import Derived.Laws.BitsAllLaws
import Derived.Lib.ItoaNum
namespace Go.Proofs.NatMath

theorem div_parts {T y M S U u1 u0 Y Q1 R1 Q0 R0 : Nat} (hS : 0 < S) (hy : 0 < y) (hY : Y = y * S) (hM : M * S = (U * T + u1) * T + u0) (h1 : U * T + u1 = Q1 * Y + R1) (h0 : R1 * T + u0 = Q0 * Y + R0) (hlt : R0 < Y) :
    Q1 * T + Q0 = M / y ∧ R0 / S = M % y := by
  have hYp : 0 < Y := by rw [hY]; exact Nat.mul_pos hy hS
  have e : M * S = Y * (Q1 * T + Q0) + R0 := by
    rw [hM, h1, Nat.add_mul, Nat.add_assoc, h0]
    rw [show Q1 * Y * T = Y * (Q1 * T) by rw [Nat.mul_comm Q1 Y, Nat.mul_assoc], Nat.mul_add Y, Nat.mul_comm Q0 Y]
    omega
  have e1 : M * S / (y * S) = M / y := Nat.mul_div_mul_right _ _ hS
  have e2 : M * S % (y * S) = M % y * S := Nat.mul_mod_mul_right _ _ _
  rw [← hY, e] at e1 e2
  rw [Nat.mul_add_div hYp, Nat.div_eq_of_lt hlt] at e1
  rw [Nat.mul_add_mod, Nat.mod_eq_of_lt hlt] at e2
  refine ⟨by omega, ?_⟩
  rw [e2, Nat.mul_div_cancel _ hS]

/-- the two halves of a dividend that is moved by s bits -/
theorem moved {B hi lo S R : Nat} (hB : B = R * S) (hS : 0 < S) (hR : 0 < R) : (hi * B + lo) * S = (hi * S + lo / R) * B + lo * S % B := by
  have e : lo * S / B = lo / R := by rw [hB, Nat.mul_div_mul_right _ _ hS]
  have h := Nat.div_add_mod (lo * S) B
  rw [e] at h
  rw [Nat.add_mul, Nat.add_mul]
  rw [show hi * B * S = hi * S * B by rw [Nat.mul_assoc, Nat.mul_comm B S, Nat.mul_assoc], Nat.mul_comm (lo / R) B]
  have := hR
  omega
theorem moved_lt {B hi lo y S U L : Nat} (hS : 0 < S) (hhi : hi < y) (hlo : lo < B) (h : (hi * B + lo) * S = U * B + L) : U < y * S := by
  have h1 : hi * B + lo < y * B := by
    have := Nat.mul_le_mul_right B (show hi + 1 ≤ y from hhi)
    rw [Nat.add_mul] at this
    omega
  have h2 : (hi * B + lo) * S < y * B * S := Nat.mul_lt_mul_of_pos_right h1 hS
  rw [h] at h2
  rcases Nat.lt_or_ge U (y * S) with hl | hl
  · exact hl
  · have h3 := Nat.mul_le_mul_right B hl
    rw [Nat.mul_assoc, Nat.mul_comm S B, ← Nat.mul_assoc] at h3
    omega
end Go.Proofs.NatMath
namespace Go.Proofs.YtmlijikandchoaaDoor
open Go.RowKit NatMath

theorem wrapN {n : Nat} (h : n < 18446744073709551616) : IntKind.u64.wrap (n : Int) = (n : Int) := IntWalk.u64_in _ ⟨by omega, by omega⟩
theorem and_low {n : Nat} (h : n < 18446744073709551616) : bits .and .u64 (n : Int) 4294967295 = ((n % 4294967296 : Nat) : Int) := by
  have h1 := u64_and_nat n 4294967295 h (by decide)
  rw [show (4294967295 : Nat) = 2 ^ 32 - 1 by decide, Nat.and_two_pow_sub_one_eq_mod] at h1
  exact h1
theorem wrap_sub3 {x u z r : Nat} (h : x + u = z + r) (hr : r < 18446744073709551616) : IntKind.u64.wrap (IntKind.u64.wrap (IntKind.u64.wrap (x : Int) + (u : Int)) - IntKind.u64.wrap (z : Int)) = (r : Int) := by
  simp only [IntKind.wrap_u64]
  omega

theorem div64_any (hi lo y : Nat) (w : World) (hy : hi < y) (hlo : lo < 18446744073709551616) (hyB : y < 18446744073709551616) :
    Calls Tryd.prog 56 #[.int .u64 (hi : Int), .int .u64 (lo : Int), .int .u64 (y : Int)] w
      (fun e w' => e = .returned (.tuple #[.int .u64 (((hi * B64 + lo) / y : Nat) : Int), .int .u64 (((hi * B64 + lo) % y : Nat) : Int)]) ∧ ∃ n, w' = w.drewN n) := by
  rcases Nat.eq_zero_or_pos hi with rfl | hhi
  · rw [Nat.zero_mul, Nat.zero_add]
    exact div64_low lo y w hy hlo
  · have hbl : 1 ≤ Lib.bitLen y ∧ 2 ^ (Lib.bitLen y - 1) ≤ y ∧ y < 2 ^ Lib.bitLen y := Lib.bitLenAux_bounds 64 y (by simpa using hyB) (by omega)
    have hb64 : Lib.bitLen y ≤ 64 := Lib.bitLen_le y 64 (Nat.le_refl _) (by simpa using hyB)
    obtain ⟨s, hs⟩ : ∃ s, s = 64 - Lib.bitLen y := ⟨_, rfl⟩
    have hsb : Lib.bitLen y = 64 - s := by omega
    obtain ⟨S, hS⟩ : ∃ S, S = 2 ^ s := ⟨_, rfl⟩
    have hSp : 0 < S := by rw [hS]; exact Nat.pow_pos (by omega)
    obtain ⟨R, hR⟩ : ∃ R, R = 2 ^ (64 - s) := ⟨_, rfl⟩
    have hRp : 0 < R := by rw [hR]; exact Nat.pow_pos (by omega)
    have hBRS : 18446744073709551616 = R * S := by
      rw [hR, hS, ← Nat.pow_add, show 64 - s + s = 64 by omega]
    obtain ⟨Y, hY⟩ : ∃ Y, Y = y * S := ⟨_, rfl⟩
    have hY1 : Y < 18446744073709551616 := by
      rw [hY, hBRS]
      exact Nat.mul_lt_mul_of_pos_right (by rw [hR, ← hsb]; exact hbl.2.2) hSp
    have hY0 : 9223372036854775808 ≤ Y := by
      rw [hY]
      have h1 : 2 ^ (Lib.bitLen y - 1) * 2 ^ s ≤ y * 2 ^ s := Nat.mul_le_mul_right _ hbl.2.1
      rw [← Nat.pow_add, show Lib.bitLen y - 1 + s = 63 by omega, ← hS] at h1
      exact h1
    obtain ⟨L, hL⟩ : ∃ L, L = lo * S % 18446744073709551616 := ⟨_, rfl⟩
    have hLB : L < 18446744073709551616 := by rw [hL]; exact Nat.mod_lt _ (by decide)
    obtain ⟨U, hU⟩ : ∃ U, U = hi * S + lo / R := ⟨_, rfl⟩
    have hM : (hi * 18446744073709551616 + lo) * S = U * 18446744073709551616 + L := by rw [hU, hL]; exact moved hBRS hSp hRp
    have hUY : U < Y := by rw [hY]; exact moved_lt hSp hy hlo hM
    have hloR : lo / R < S := by rw [Nat.div_lt_iff_lt_mul hRp, Nat.mul_comm, ← hBRS]; exact hlo
    have hH : hi * S < 18446744073709551616 := Nat.lt_of_le_of_lt (by rw [hU]; exact Nat.le_add_right _ _) (Nat.lt_trans hUY hY1)
    obtain ⟨a, ha⟩ : ∃ a, a = Y / 4294967296 := ⟨_, rfl⟩
    obtain ⟨b, hb⟩ : ∃ b, b = Y % 4294967296 := ⟨_, rfl⟩
    have hYab : Y = a * 4294967296 + b := by omega
    obtain ⟨u1, hu1⟩ : ∃ u, u = L / 4294967296 := ⟨_, rfl⟩
    obtain ⟨u0, hu0⟩ : ∃ u, u = L % 4294967296 := ⟨_, rfl⟩
    have hMM : (hi * 18446744073709551616 + lo) * S = (U * 4294967296 + u1) * 4294967296 + u0 := by rw [hM]; omega
    have hYp : 0 < Y := by omega
    obtain ⟨Q1, hQ1⟩ : ∃ q, q = (U * 4294967296 + u1) / Y := ⟨_, rfl⟩
    obtain ⟨R1, hR1⟩ : ∃ q, q = (U * 4294967296 + u1) % Y := ⟨_, rfl⟩
    have hR1Y : R1 < Y := by rw [hR1]; exact Nat.mod_lt _ hYp
    have hN1 : U * 4294967296 + u1 = Q1 * Y + R1 := by rw [hQ1, hR1]; exact (Nat.div_add_mod' _ _).symm
    obtain ⟨Q0, hQ0⟩ : ∃ q, q = (R1 * 4294967296 + u0) / Y := ⟨_, rfl⟩
    obtain ⟨R0, hR0⟩ : ∃ q, q = (R1 * 4294967296 + u0) % Y := ⟨_, rfl⟩
    have hR0Y : R0 < Y := by rw [hR0]; exact Nat.mod_lt _ hYp
    have hN0 : R1 * 4294967296 + u0 = Q0 * Y + R0 := by rw [hQ0, hR0]; exact (Nat.div_add_mod' _ _).symm
    obtain ⟨hqq, hrr⟩ := div_parts hSp (by omega : 0 < y) hY hMM hN1 hN0 hR0Y
    have hQ1T : Q1 < 4294967296 := est_lt (u := u1) hUY (by omega) (by omega)
    have hQ0T : Q0 < 4294967296 := est_lt (u := u0) hR1Y (by omega) (by omega)
    have hap : 2147483648 ≤ a := by omega
    have hU1 : U / a * a + U % a = U := by rw [Nat.mul_comm]; exact Nat.div_add_mod U a
    have hR1a : R1 / a * a + R1 % a = R1 := by rw [Nat.mul_comm]; exact Nat.div_add_mod R1 a
    have hUa : U / a ≤ U := Nat.div_le_self _ _
    have hRa : R1 / a ≤ R1 := Nat.div_le_self _ _
    have hUm : U % a < a := Nat.mod_lt _ (by omega)
    have hRm : R1 % a < a := Nat.mod_lt _ (by omega)
    have hQ1e : Q1 ≤ U / a := est_ge (u := u1) (by omega) hYab (by omega) (by omega)
    have hQ0e : Q0 ≤ R1 / a := est_ge (u := u0) (by omega) hYab (by omega) (by omega)
    have hQ1t : U / a ≤ 4294967297 := est_top hap hYab (by omega) hUY
    have hQ0t : R1 / a ≤ 4294967297 := est_top hap hYab (by omega) hR1Y
    have hpw : ((2 : Int) ^ s) = ((S : Nat) : Int) := by rw [hS]; simp
    refine (div64_high hi lo y s Y a b U (hi * S) L u1 u0 (U / a) (U % a) (U / a * a) Q1 R1 (R1 / a) (R1 % a) (R1 / a * a) Q0 ((hi * B64 + lo) / y) ((hi * B64 + lo) % y) R0 w hhi hy hlo hyB (by omega) (by omega)
      ?_ ?_ ?_ (by omega) ?_ ?_ ?_ ?_ ?_ ?_ ?_ ?_ ?_ ?_ ?_ ?_ ?_ ?_ ?_ (by omega) (by omega) (by omega) (by omega) hYab ⟨by omega, ?_⟩ hQ1T ⟨hU1, by omega, hQ1e, hQ1t⟩ ⟨by omega, ?_⟩ hQ0T ⟨hR1a, by omega, hQ0e, hQ0t⟩).mono
      (fun e w' h => ⟨h.1, 0, h.2.symm⟩)
    · rw [hpw, show (y : Int) * (S : Int) = ((y * S : Nat) : Int) by simp, ← hY]; exact wrapN hY1
    · rw [ha]; rfl
    · rw [hb]; exact and_low hY1
    · rw [hpw, show (hi : Int) * (S : Int) = ((hi * S : Nat) : Int) by simp]; exact wrapN hH
    · rw [hpw, hL, IntKind.wrap_u64, show (lo : Int) * (S : Int) = ((lo * S : Nat) : Int) by simp]; rfl
    · rw [hu1]; rfl
    · rw [hu0]; exact and_low hLB
    · rw [show ((2 : Int) ^ (64 - s)) = ((R : Nat) : Int) by rw [hR]; simp, show (lo : Int) / (R : Int) = ((lo / R : Nat) : Int) from rfl, u64_or_nat _ _ hH (by omega), hU, hS]
      congr 1
      rw [Nat.mul_comm hi (2 ^ s)]
      exact (Nat.two_pow_add_eq_or_of_lt (by rw [← hS]; exact hloR) hi).symm
    · exact wrapN (by omega)
    · rw [show ((U / a : Nat) : Int) * (a : Int) = ((U / a * a : Nat) : Int) by simp]; exact wrapN (by omega)
    · rw [show (U : Int) - ((U / a * a : Nat) : Int) = ((U % a : Nat) : Int) by omega]; exact wrapN (by omega)
    · rw [show (U : Int) * 4294967296 = ((U * 4294967296 : Nat) : Int) by simp, show (Q1 : Int) * (Y : Int) = ((Q1 * Y : Nat) : Int) by simp]
      exact wrap_sub3 hN1 (by omega)
    · exact wrapN (by omega)
    · rw [show ((R1 / a : Nat) : Int) * (a : Int) = ((R1 / a * a : Nat) : Int) by simp]; exact wrapN (by omega)
    · rw [show (R1 : Int) - ((R1 / a * a : Nat) : Int) = ((R1 % a : Nat) : Int) by omega]; exact wrapN (by omega)
    · rw [show (R1 : Int) * 4294967296 = ((R1 * 4294967296 : Nat) : Int) by simp, show (Q0 : Int) * (Y : Int) = ((Q0 * Y : Nat) : Int) by simp]
      exact wrap_sub3 hN0 (by omega)
    · rw [show (hi * B64 + lo) / y = Q1 * 4294967296 + Q0 from hqq.symm]
      simp only [IntKind.wrap_u64]
      omega
    · rw [hpw, show (hi * B64 + lo) % y = R0 / S from hrr.symm]; rfl
    · rw [Nat.add_mul, Nat.one_mul]; omega
    · rw [Nat.add_mul, Nat.one_mul]; omega
end Go.Proofs.YtmlijikandchoaaDoor
