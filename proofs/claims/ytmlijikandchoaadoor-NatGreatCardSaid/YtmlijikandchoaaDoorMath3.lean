/- The quotient of two words by one, half a word at a time. -/
import Derived.Test.YtmlijikandchoaaDoorMath2
namespace Go.Proofs.NatMath

theorem est_iffT {T U Y a b u q r : Nat} (hY : Y = a * T + b) (hr : q * a + r = U) : U * T + u < q * Y ↔ T * r + u < q * b := by
  subst hY
  subst hr
  rw [Nat.mul_add, ← Nat.mul_assoc, Nat.add_mul, Nat.mul_comm T r]
  generalize q * a * T = p
  generalize q * b = e
  generalize r * T = f
  omega
theorem est_iff {U Y a b u q r : Nat} (hY : Y = a * 4294967296 + b) (hr : q * a + r = U) : U * 4294967296 + u < q * Y ↔ 4294967296 * r + u < q * b := est_iffT hY hr
theorem est_geT {T U a b u Q : Nat} (hu : u < T) (h1 : Q * (a * T + b) ≤ U * T + u) : Q * a ≤ U := by
  rw [Nat.mul_add, ← Nat.mul_assoc] at h1
  rcases Nat.lt_or_ge U (Q * a) with h | h
  · have := Nat.mul_le_mul_right T (show U + 1 ≤ Q * a from h)
    rw [Nat.add_mul] at this
    omega
  · exact h
theorem quo_iff {N Y q Q : Nat} (h1 : Q * Y ≤ N) (h2 : N < (Q + 1) * Y) : N < q * Y ↔ Q < q := by
  constructor
  · intro h
    rcases Nat.lt_or_ge Q q with hl | hl
    · exact hl
    · have := Nat.mul_le_mul_right Y hl
      omega
  · intro h
    have := Nat.mul_le_mul_right Y (show Q + 1 ≤ q from h)
    omega
theorem est_lt {U Y u Q : Nat} (hU : U < Y) (hu : u < 4294967296) (h1 : Q * Y ≤ U * 4294967296 + u) : Q < 4294967296 := by
  rcases Nat.lt_or_ge Q 4294967296 with h | h
  · exact h
  · have := Nat.mul_le_mul_right Y h
    omega
theorem est_ge {U Y a b u Q : Nat} (ha : 0 < a) (hY : Y = a * 4294967296 + b) (hu : u < 4294967296) (h1 : Q * Y ≤ U * 4294967296 + u) : Q ≤ U / a := by
  rw [Nat.le_div_iff_mul_le ha]
  subst hY
  exact est_geT hu h1
theorem est_top {U Y a b : Nat} (ha : 2147483648 ≤ a) (hY : Y = a * 4294967296 + b) (hb : b < 4294967296) (hU : U < Y) : U / a ≤ 4294967297 := by
  have h1 : U / a < 4294967298 := by
    rw [Nat.div_lt_iff_lt_mul (by omega)]
    omega
  omega
/-- one step of the estimate's loop -/
theorem est_step {U a q r : Nat} (hq : 0 < q) (hr : q * a + r = U) : (q - 1) * a + (r + a) = U := by
  obtain ⟨p, rfl⟩ : ∃ p, q = p + 1 := ⟨q - 1, by omega⟩
  rw [Nat.add_sub_cancel]
  rw [Nat.add_mul] at hr
  omega
theorem est_stop {U Y a b u q r Q : Nat} (hY : Y = a * 4294967296 + b) (hb : b < 4294967296) (hr : q * a + r = U) (hq : q ≤ 4294967296) (hT : 4294967296 ≤ r)
    (h1 : Q * Y ≤ U * 4294967296 + u) (h2 : U * 4294967296 + u < (Q + 1) * Y) : q ≤ Q := by
  rcases Nat.lt_or_ge Q q with hl | hl
  · have h3 := (est_iff hY hr (u := u)).1 ((quo_iff h1 h2).2 hl)
    have h4 : q * b ≤ 4294967296 * 4294967295 := Nat.mul_le_mul hq (by omega)
    omega
  · exact hl
end Go.Proofs.NatMath
