/- An assignment with a variable put; words by halves, by operations, bit by bit. -/
import Derived.Test.YtlliihognnnpmaaDoorMath
namespace SetMath

/-- x with v as b. -/
def putN (x v : Nat) (b : Bool) : Nat := 2 ^ v * (2 * (x / 2 ^ v / 2) + b.toNat) + x % 2 ^ v
theorem put_bit (x v : Nat) (b : Bool) (j : Nat) : (putN x v b).testBit j = if j = v then b else x.testBit j := by
  unfold putN
  rw [Nat.testBit_two_pow_mul_add _ (Nat.mod_lt _ (Nat.two_pow_pos v))]
  by_cases h : j < v
  · rw [if_pos h, if_neg (by omega), Nat.testBit_mod_two_pow, decide_eq_true h, Bool.true_and]
  · rw [if_neg h]
    by_cases h2 : j = v
    · subst h2
      rw [if_pos rfl, Nat.sub_self, Nat.testBit_zero]
      cases b <;> simp <;> omega
    · rw [if_neg h2]
      obtain ⟨k, hk⟩ : ∃ k, j - v = k + 1 := ⟨j - v - 1, by omega⟩
      rw [hk, Nat.testBit_succ, show (2 * (x / 2 ^ v / 2) + b.toNat) / 2 = x / 2 ^ v / 2 by cases b <;> simp <;> omega, ← Nat.testBit_succ, Nat.testBit_div_two_pow]
      congr 1
      omega
theorem put_lt {x v n : Nat} (hx : x < 2 ^ n) (hv : v < n) (b : Bool) : putN x v b < 2 ^ n := by
  apply Nat.lt_pow_two_of_testBit
  intro j hj
  rw [put_bit, if_neg (by omega)]
  exact Nat.testBit_lt_two_pow (Nat.lt_of_lt_of_le hx (Nat.pow_le_pow_right (by omega) hj))
theorem put_eq {x y : Nat} (v : Nat) (b : Bool) (h : ∀ j, y.testBit j = if j = v then b else x.testBit j) : y = putN x v b := by
  apply Nat.eq_of_testBit_eq
  intro j
  rw [h, put_bit]
theorem or_put (i v : Nat) : i ||| 2 ^ v = putN i v true := by
  apply put_eq
  intro j
  rw [Nat.testBit_or, Nat.testBit_two_pow]
  by_cases h : j = v
  · subst h; simp
  · rw [if_neg h, decide_eq_false (fun e => h e.symm)]; simp
/-- What the document reckons. -/
theorem put_arith (x v : Nat) (b : Nat) (hb : b < 2) : (x : Int) + ((b : Int) - ((x / 2 ^ v % 2 : Nat) : Int)) * ((2 ^ v : Nat) : Int) = ((putN x v (decide (b = 1)) : Nat) : Int) := by
  unfold putN
  have h1 : 2 ^ v * (x / 2 ^ v) + x % 2 ^ v = x := Nat.div_add_mod _ _
  have h2 : 2 * (x / 2 ^ v / 2) + x / 2 ^ v % 2 = x / 2 ^ v := Nat.div_add_mod _ _
  have h3 : (decide (b = 1)).toNat = b := by
    rcases (by omega : b = 0 ∨ b = 1) with rfl | rfl <;> rfl
  rw [h3]
  generalize x / 2 ^ v / 2 = z at *
  generalize x / 2 ^ v % 2 = d at *
  rw [← h2] at h1
  generalize x % 2 ^ v = r at *
  generalize 2 ^ v = p at *
  subst h1
  push_cast
  grind
/-- A place among words. -/
theorem put_great {x v : Nat} (hv : 6 ≤ v) (b : Bool) : putN x v b = 64 * putN (x / 64) (v - 6) b + x % 64 := by
  symm
  apply put_eq
  intro j
  rw [show (64 : Nat) = 2 ^ 6 from rfl, Nat.testBit_two_pow_mul_add _ (Nat.mod_lt _ (by decide))]
  by_cases h : j < 6
  · rw [if_pos h, if_neg (by omega), Nat.testBit_mod_two_pow, decide_eq_true h, Bool.true_and]
  · rw [if_neg h, put_bit]
    by_cases h2 : j = v
    · rw [if_pos (by omega), if_pos h2]
    · rw [if_neg (by omega), if_neg h2, Nat.testBit_div_two_pow]
      congr 1; omega
theorem put_small {x v : Nat} (hv : v < 6) (b : Bool) : putN x v b = 64 * (x / 64) + putN (x % 64) v b := by
  symm
  apply put_eq
  intro j
  have hl : putN (x % 64) v b < 2 ^ 6 := put_lt (Nat.mod_lt _ (by decide)) hv b
  rw [show (64 : Nat) * (x / 64) = 2 ^ 6 * (x / 64) from rfl, Nat.testBit_two_pow_mul_add _ hl]
  by_cases h : j < 6
  · rw [if_pos h, put_bit, show (64 : Nat) = 2 ^ 6 from rfl, Nat.testBit_mod_two_pow, decide_eq_true h, Bool.true_and]
  · rw [if_neg h, if_neg (by omega), show (64 : Nat) = 2 ^ 6 from rfl, Nat.testBit_div_two_pow]
    congr 1; omega
theorem place_put {ws : List Nat} {i j : Nat} (hj : j < 64) : bitAt ws (64 * i + j) = ((ws[i]?).getD 0).testBit j := by
  unfold bitAt
  rw [show (64 * i + j) / 64 = i by omega, show (64 * i + j) % 64 = j by omega]

/-- a with its bits turned about. -/
def notW (a : Nat) : Nat := 2 ^ 64 - (a + 1)
theorem notW_bit {a : Nat} (ha : a < 2 ^ 64) (j : Nat) : (notW a).testBit j = (decide (j < 64) && !a.testBit j) := Nat.testBit_two_pow_sub_succ ha j
theorem notW_lt (a : Nat) : notW a < 2 ^ 64 := by unfold notW; omega
def chW (f g h : Nat) : Nat := (f &&& g) ||| (notW f &&& h)
theorem chW_lt {f g h : Nat} (hf : f < 2 ^ 64) (hh : h < 2 ^ 64) : chW f g h < 2 ^ 64 :=
  Nat.or_lt_two_pow (Nat.lt_of_le_of_lt Nat.and_le_left hf) (Nat.and_lt_two_pow _ hh)
theorem chW_bit {f g h : Nat} (hf : f < 2 ^ 64) {j : Nat} (hj : j < 64) : (chW f g h).testBit j = if f.testBit j then g.testBit j else h.testBit j := by
  unfold chW
  rw [Nat.testBit_or, Nat.testBit_and, Nat.testBit_and, notW_bit hf, decide_eq_true hj]
  cases f.testBit j <;> simp

/-- What an operation tells, as far as the k-th pair of truths. -/
def opPart (a b : Nat) : Nat → Nat
  | 0 => notW a &&& notW b
  | 1 => notW a &&& b
  | 2 => a &&& notW b
  | _ => a &&& b
def opAcc (o a b : Nat) : Nat → Nat
  | 0 => 0
  | k + 1 => if o.testBit k then opAcc o a b k ||| opPart a b k else opAcc o a b k
def opW (o a b : Nat) : Nat := opAcc o a b 4
theorem opPart_lt {a b : Nat} (_ha : a < 2 ^ 64) (hb : b < 2 ^ 64) (k : Nat) : opPart a b k < 2 ^ 64 := by
  unfold opPart
  split
  · exact Nat.and_lt_two_pow _ (notW_lt _)
  · exact Nat.and_lt_two_pow _ hb
  · exact Nat.and_lt_two_pow _ (notW_lt _)
  · exact Nat.and_lt_two_pow _ hb
theorem opAcc_lt {a b : Nat} (o : Nat) (ha : a < 2 ^ 64) (hb : b < 2 ^ 64) : ∀ k, opAcc o a b k < 2 ^ 64
  | 0 => by simp [opAcc]
  | k + 1 => by
    have h1 := opAcc_lt o ha hb k
    unfold opAcc
    split
    · exact Nat.or_lt_two_pow h1 (opPart_lt ha hb k)
    · exact h1
theorem opW_bit {o a b : Nat} (ha : a < 2 ^ 64) (hb : b < 2 ^ 64) {j : Nat} (hj : j < 64) : (opW o a b).testBit j = o.testBit (2 * (a.testBit j).toNat + (b.testBit j).toNat) := by
  have e : ∀ k, (opAcc o a b (k + 1)).testBit j = ((opAcc o a b k).testBit j || (o.testBit k && (opPart a b k).testBit j)) := by
    intro k
    rw [opAcc]
    split
    · rename_i h; rw [Nat.testBit_or, h, Bool.true_and]
    · rename_i h; rw [Bool.not_eq_true] at h; rw [h]; simp
  unfold opW
  rw [e 3, e 2, e 1, e 0]
  simp only [opAcc, opPart, Nat.testBit_and, notW_bit ha, notW_bit hb, decide_eq_true hj, Nat.zero_testBit, Bool.false_or, Bool.true_and]
  cases a.testBit j <;> cases b.testBit j <;> simp
end SetMath
