/- Ranges that go on and on, and what is taken of them; no statement of the seat. -/
import Derived.Test.YtndocahooajfgaaMade2
namespace Go.Proofs.Ytndocahooajfgaa
open Go.RowKit SeqMath

theorem evr_at (n : Nat) (hn : 1 ≤ n) (k : Nat) (xs : List Int) (i : Nat) : (evr n k xs)[i]? = xs[k + i * n]? := by
  induction xs generalizing k i with
  | nil => simp [evr]
  | cons x t ih =>
    cases k with
    | zero =>
      cases i with
      | zero => simp [evr]
      | succ i =>
        show (evr n (n - 1) t)[i]? = _
        rw [ih, show 0 + (i + 1) * n = (n - 1 + i * n) + 1 by rw [Nat.add_mul]; omega, List.getElem?_cons_succ]
    | succ k =>
      show (evr n k t)[i]? = _
      rw [ih, show k + 1 + i * n = (k + i * n) + 1 by omega, List.getElem?_cons_succ]
theorem rngl_take (x b : Int) (m j : Nat) : (rngl x b m).take j = rngl x b (min j m) := by
  induction m generalizing x j with
  | zero => simp [rngl]
  | succ m ih =>
    cases j with
    | zero => simp [rngl]
    | succ j => simp only [rngl, List.take_succ_cons, ih]; rw [Nat.succ_min_succ]; rfl
theorem cnt_far : cnt 0 9223372036854775807 1 = 9223372036854775807 := by
  unfold cnt
  rw [if_pos ⟨by omega, by omega⟩]
  rw [Int.ediv_one]
  omega
theorem cnt_near (t : Nat) (h : 0 < t) : cnt 0 (t : Int) 1 = t := by
  unfold cnt
  rw [if_pos ⟨by omega, by omega⟩]
  rw [Int.ediv_one]
  omega
theorem far_at (j : Nat) (h : j < 1000000) : (rng 0 9223372036854775807 1)[j]? = some (j : Int) := by
  unfold rng
  rw [cnt_far, rngl_at _ _ _ _ (by omega)]
  congr 1
  omega
theorem far_take (j : Nat) (h : j ≤ 1000000) : (rng 0 9223372036854775807 1).take j = rngl 0 1 j := by
  unfold rng
  rw [cnt_far, rngl_take, Nat.min_eq_left (by omega)]
theorem near_take (t : Nat) (h : 0 < t) : (rng 0 (t : Int) 1).take t = rngl 0 1 t := by
  unfold rng
  rw [cnt_near t h, rngl_take, Nat.min_self]
theorem mrg_take (m j : Nat) (h : m ≤ j) (a b : List Int) : (mrg a b).take m = (mrg (a.take j) b).take m := by
  induction m generalizing j a b with
  | zero => simp
  | succ m ih =>
    obtain ⟨j, rfl⟩ : ∃ j', j = j' + 1 := ⟨j - 1, by omega⟩
    cases a with
    | nil => simp
    | cons x a =>
      cases b with
      | nil => rw [mrg_nil_r, mrg_nil_r, List.take_take, Nat.min_eq_left h]
      | cons y b =>
        rw [List.take_succ_cons]
        rcases Int.lt_trichotomy x y with hxy | hxy | hxy
        · rw [mrg_lt hxy, mrg_lt hxy, List.take_succ_cons, List.take_succ_cons, ih j (by omega)]
        · subst hxy
          rw [mrg_eq, mrg_eq, List.take_succ_cons, List.take_succ_cons, ih j (by omega)]
        · rw [mrg_gt hxy, mrg_gt hxy, List.take_succ_cons, List.take_succ_cons, ih (j + 1) (by omega) (x :: a) b, List.take_succ_cons]
/-- Every n-th of what is behind the first k, the first m of these. -/
theorem far_every (k n m i : Nat) (hn : 1 ≤ n) (hn2 : n ≤ 20) (hk : k ≤ 255) (hm : m ≤ 50) (hi : i < m) :
    ((everyL ((rng 0 9223372036854775807 1).drop k) (n : Int)).take m)[i]? = some ((k : Int) + (i : Int) * (n : Int)) := by
  have hmul : i * n ≤ 50 * 20 := Nat.mul_le_mul (by omega) hn2
  rw [List.getElem?_take, if_pos hi]
  unfold everyL
  rw [if_neg (by omega), Int.toNat_natCast, evr_at _ hn, List.getElem?_drop, far_at _ (by omega)]
  congr 1
  rw [show k + (0 + i * n) = k + i * n by omega]
  simp
theorem far_every_len (k n m : Nat) (hn : 1 ≤ n) (hn2 : n ≤ 20) (hk : k ≤ 255) (hm : m ≤ 50) : ((everyL ((rng 0 9223372036854775807 1).drop k) (n : Int)).take m).length = m := by
  rcases Nat.lt_or_ge ((everyL ((rng 0 9223372036854775807 1).drop k) (n : Int)).take m).length m with h | h
  · have h1 := far_every k n m _ hn hn2 hk hm h
    rw [List.getElem?_eq_none (Nat.le_refl _)] at h1
    cases h1
  · have := List.length_take_le m (everyL ((rng 0 9223372036854775807 1).drop k) (n : Int))
    omega
theorem app_take (l f : List Int) (m : Nat) (hm : m ≤ 60) : (l ++ f).take m = (l ++ f.take 60).take m := by
  rw [List.take_append, List.take_append, List.take_take, Nat.min_eq_left (by omega)]

end Go.Proofs.Ytndocahooajfgaa
