/- Decimal numerals, nineteen digits at a time; and numerals as digits turned round. -/
import Derived.Test.YtmlijikandchoaaDoorMath2
import Derived.Lib.ItoaNum
import Derived.Lib.Join
import Derived.Lib.Repeat
namespace Go.Proofs.NatMath
open Go.Lib

def pd : Nat → Nat → List UInt8
  | 0, _ => []
  | k + 1, r => pd k (r / 10) ++ [UInt8.ofNat (48 + r % 10)]
theorem dec_small {u : Nat} (h : u < 10) : decDigits u = [UInt8.ofNat (48 + u)] := decDigits_one h
theorem dec_big {u : Nat} (h : ¬ u < 10) : decDigits u = decDigits (u / 10) ++ [UInt8.ofNat (48 + u % 10)] := by rw [decDigits, dif_neg h]
theorem dec_split (k : Nat) : ∀ N, 10 ^ k ≤ N → decDigits N = decDigits (N / 10 ^ k) ++ pd k (N % 10 ^ k) := by
  induction k with
  | zero => intro N _; simp [pd]
  | succ k ih =>
    intro N hN
    rw [Nat.pow_succ] at hN
    have h10 : ¬ N < 10 := by have : 1 ≤ 10 ^ k := Nat.pow_pos (by omega); omega
    have hdiv : 10 ^ k ≤ N / 10 := by rw [Nat.le_div_iff_mul_le (by omega)]; exact hN
    rw [dec_big h10, ih (N / 10) hdiv]
    have e1 : N / 10 / 10 ^ k = N / 10 ^ (k + 1) := by rw [Nat.div_div_eq_div_mul, Nat.pow_succ, Nat.mul_comm]
    have e2 : N % 10 ^ (k + 1) / 10 = N / 10 % 10 ^ k := by rw [Nat.pow_succ, Nat.mul_comm, Nat.mod_mul_right_div_self]
    have e3 : N % 10 ^ (k + 1) % 10 = N % 10 := by rw [Nat.pow_succ, Nat.mod_mul_left_mod]
    simp only [pd, e1, e2, e3, List.append_assoc]
theorem pd_zero (k : Nat) : pd k 0 = List.replicate k 48 := by
  induction k with
  | zero => rfl
  | succ k ih => simp only [pd, Nat.zero_div, ih, Nat.zero_mod]; rw [List.replicate_succ']; rfl
theorem pd_eq (k : Nat) : ∀ r, r < 10 ^ (k + 1) → pd (k + 1) r = List.replicate (k + 1 - nDigits r) 48 ++ decDigits r := by
  induction k with
  | zero =>
    intro r hr
    rw [dec_small (by simpa using hr), nDigits_small (by simpa using hr)]
    simp [pd, Nat.mod_eq_of_lt (show r < 10 by simpa using hr)]
  | succ k ih =>
    intro r hr
    by_cases h : r < 10
    · rw [dec_small h, nDigits_small h]
      show pd (k + 1) (r / 10) ++ [UInt8.ofNat (48 + r % 10)] = _
      rw [Nat.div_eq_of_lt h, Nat.mod_eq_of_lt h, pd_zero]
      rfl
    · rw [dec_big h, nDigits_big h]
      show pd (k + 1) (r / 10) ++ [UInt8.ofNat (48 + r % 10)] = _
      rw [ih (r / 10) (by rw [Nat.div_lt_iff_lt_mul (by omega), ← Nat.pow_succ]; exact hr), List.append_assoc]
      congr 2
      omega
theorem repeat_one (c : Nat) : repeatL [48] c = List.replicate c 48 := by
  induction c with
  | zero => rfl
  | succ c ih => simp [repeatL, ih, List.replicate_succ]
theorem join_empty (xs : List (List UInt8)) : Lib.join xs [] = xs.flatten := by
  cases xs with
  | nil => rfl
  | cons x r => rw [join_cons]; simp [joinTail]

/-- the text so far: what is left, and what was written, turned round -/
def soFar (N : Nat) (ps : List (List UInt8)) : List UInt8 := (if N = 0 then [] else decDigits N) ++ ps.reverse.flatten
theorem soFar_start (N : Nat) (h : N ≠ 0) : soFar N [] = decDigits N := by simp [soFar, h]
theorem soFar_end (ps : List (List UInt8)) : soFar 0 ps = ps.reverse.flatten := by simp [soFar]
theorem soFar_last {N : Nat} (ps : List (List UInt8)) (h : N ≠ 0) (hq : N / 10000000000000000000 = 0) : soFar (N / 10000000000000000000) (ps ++ [decDigits (N % 10000000000000000000)]) = soFar N ps := by
  have e : N % 10000000000000000000 = N := by omega
  rw [hq, e]
  simp [soFar, h]
theorem soFar_step {N : Nat} (ps : List (List UInt8)) (hq : N / 10000000000000000000 ≠ 0) :
    soFar (N / 10000000000000000000) (ps ++ [List.replicate (19 - nDigits (N % 10000000000000000000)) 48 ++ decDigits (N % 10000000000000000000)]) = soFar N ps := by
  have h1 := dec_split 19 N (by show 10000000000000000000 ≤ N; omega)
  have h2 := pd_eq 18 (N % 10000000000000000000) (by show _ < 10000000000000000000; omega)
  have h1' : decDigits N = decDigits (N / 10000000000000000000) ++ pd 19 (N % 10000000000000000000) := h1
  have hN : N ≠ 0 := by omega
  unfold soFar
  rw [if_neg hq, if_neg hN, h1', h2]
  simp
theorem nDigits_19 {r : Nat} (h : r < 10000000000000000000) : nDigits r ≤ 19 := by
  rcases Nat.lt_or_ge r (10 ^ 18) with h1 | h1
  · have h2 : ∀ k r, r < 10 ^ k → nDigits r ≤ k + 1 := by
      intro k
      induction k with
      | zero => intro r hr; rw [nDigits_small (by omega)]; omega
      | succ k ih =>
        intro r hr
        by_cases hs : r < 10
        · rw [nDigits_small hs]; omega
        · rw [nDigits_big hs]
          have := ih (r / 10) (by rw [Nat.div_lt_iff_lt_mul (by omega), ← Nat.pow_succ]; exact hr)
          omega
    exact h2 18 r h1
  · rw [nDigits_unique 18 r h1 (by exact h)]; omega

/-! ### numerals and digits -/
theorem digs_cons {n : Nat} (h : n ≠ 0) : digs 10 n = n % 10 :: digs 10 (n / 10) := by
  refine (digs_eq (b := 10) (by omega) (dig_cons.2 ⟨Nat.mod_lt _ (by omega), digs_dig (b := 10) (by omega) _⟩) (top_cons (digs_top (b := 10) (by omega) _) ?_) ?_).symm
  · by_cases hq : n / 10 = 0
    · left; omega
    · right
      intro h0
      have := digs_val (b := 10) (by omega) (n / 10)
      rw [h0] at this
      simp only [val] at this
      omega
  · simp only [val]
    rw [digs_val (b := 10) (by omega)]
    omega
theorem dec_digs : ∀ n, n ≠ 0 → decDigits n = (digs 10 n).reverse.map fun d => UInt8.ofNat (48 + d) := by
  intro n
  induction n using Nat.strongRecOn with
  | ind n ih =>
    intro h
    rw [digs_cons h]
    by_cases hs : n < 10
    · rw [dec_small hs, show n / 10 = 0 by omega, digs_zero, Nat.mod_eq_of_lt hs]
      rfl
    · rw [dec_big hs, ih (n / 10) (by omega) (by omega)]
      simp
end Go.Proofs.NatMath
