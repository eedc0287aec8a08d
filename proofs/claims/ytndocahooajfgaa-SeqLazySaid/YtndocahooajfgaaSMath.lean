/- Ranges and merged lists of numbers; no program here. -/
import Derived.KernelRfl
namespace SeqMath

def aheadB (x to_ by_ : Int) : Bool := (decide (0 < by_) && decide (x < to_)) || (decide (by_ < 0) && decide (to_ < x))
def cnt (x to_ by_ : Int) : Nat :=
  if 0 < by_ ∧ x < to_ then ((to_ - x - 1) / by_ + 1).toNat else if by_ < 0 ∧ to_ < x then ((x - to_ - 1) / (-by_) + 1).toNat else 0
def rngl (x by_ : Int) : Nat → List Int
  | 0 => []
  | m + 1 => x :: rngl (x + by_) by_ m
def rng (x to_ by_ : Int) : List Int := rngl x by_ (cnt x to_ by_)

theorem cnt_no {x to_ by_ : Int} (h : aheadB x to_ by_ = false) : cnt x to_ by_ = 0 := by
  unfold aheadB at h
  unfold cnt
  simp at h
  rw [if_neg (by omega), if_neg (by omega)]
theorem step_up {d b : Int} (hb : 0 < b) : (d - b) / b = d / b - 1 := by
  rw [show d - b = d + (-1) * b by omega, Int.add_mul_ediv_right _ _ (by omega)]
  omega
theorem cnt_yes {x to_ by_ : Int} (h : aheadB x to_ by_ = true) : cnt x to_ by_ = cnt (x + by_) to_ by_ + 1 := by
  unfold aheadB at h
  simp at h
  unfold cnt
  rcases h with ⟨hb, hx⟩ | ⟨hb, hx⟩
  · rw [if_pos ⟨hb, hx⟩]
    by_cases h2 : x + by_ < to_
    · rw [if_pos ⟨hb, h2⟩]
      have h3 := step_up (d := to_ - x - 1) hb
      rw [show to_ - (x + by_) - 1 = to_ - x - 1 - by_ by omega, h3]
      have : 0 ≤ (to_ - (x + by_) - 1) / by_ := Int.ediv_nonneg (by omega) (by omega)
      rw [show to_ - (x + by_) - 1 = to_ - x - 1 - by_ by omega, h3] at this
      omega
    · rw [if_neg (by omega), if_neg (by omega)]
      rw [Int.ediv_eq_zero_of_lt (by omega) (by omega)]
      rfl
  · rw [if_neg (by omega), if_pos ⟨hb, hx⟩]
    by_cases h2 : to_ < x + by_
    · rw [if_neg (by omega), if_pos ⟨hb, h2⟩]
      have h3 := step_up (d := x - to_ - 1) (b := -by_) (by omega)
      have : 0 ≤ (x + by_ - to_ - 1) / (-by_) := Int.ediv_nonneg (by omega) (by omega)
      rw [show x + by_ - to_ - 1 = x - to_ - 1 - (-by_) by omega, h3] at this ⊢
      omega
    · rw [if_neg (by omega), if_neg (by omega)]
      rw [Int.ediv_eq_zero_of_lt (by omega) (by omega)]
      rfl
theorem rng_no {x to_ by_ : Int} (h : aheadB x to_ by_ = false) : rng x to_ by_ = [] := by unfold rng; rw [cnt_no h]; rfl
theorem rng_yes {x to_ by_ : Int} (h : aheadB x to_ by_ = true) : rng x to_ by_ = x :: rng (x + by_) to_ by_ := by unfold rng; rw [cnt_yes h]; rfl
theorem rng_len (x by_ : Int) (m : Nat) : (rngl x by_ m).length = m := by
  induction m generalizing x with
  | zero => rfl
  | succ m ih => simp [rngl, ih]
theorem rngl_at (x by_ : Int) (m i : Nat) (h : i < m) : (rngl x by_ m)[i]? = some (x + i * by_) := by
  induction m generalizing x i with
  | zero => omega
  | succ m ih =>
    cases i with
    | zero => simp [rngl]
    | succ i =>
      simp only [rngl, List.getElem?_cons_succ]
      rw [ih _ _ (by omega)]
      congr 1
      rw [show ((i + 1 : Nat) : Int) = (i : Int) + 1 from rfl, Int.add_mul]
      omega

/-- While both have numbers left, the lesser of both next ones, once if they are the same; then what is left of one. -/
def mrg : List Int → List Int → List Int
  | [], b => b
  | a, [] => a
  | x :: a, y :: b => if x < y then x :: mrg a (y :: b) else if y < x then y :: mrg (x :: a) b else x :: mrg a b
termination_by a b => a.length + b.length
theorem mrg_nil_l (b : List Int) : mrg [] b = b := by unfold mrg; rfl
theorem mrg_nil_r (a : List Int) : mrg a [] = a := by unfold mrg; cases a <;> rfl
theorem mrg_lt {x y : Int} {a b : List Int} (h : x < y) : mrg (x :: a) (y :: b) = x :: mrg a (y :: b) := by rw [mrg]; simp [h]
theorem mrg_gt {x y : Int} {a b : List Int} (h : y < x) : mrg (x :: a) (y :: b) = y :: mrg (x :: a) b := by rw [mrg]; simp [h, show ¬ x < y by omega]
theorem mrg_eq {x : Int} {a b : List Int} : mrg (x :: a) (x :: b) = x :: mrg a b := by rw [mrg]; simp

end SeqMath
