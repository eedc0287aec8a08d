/- Members of a set, rising; the lowest bit of a word. -/
import Derived.Test.YtlliihognnnpmaaDoorRules1
namespace Go.Proofs.YtlliihognnnpmaaDoor
open SetMath

def memU (ws : List Nat) (p : Nat) : List Int := ((List.range p).filter fun x => bitAt ws x).map fun x : Nat => (x : Int)
theorem memU_succ (ws : List Nat) (p : Nat) : memU ws (p + 1) = memU ws p ++ (if bitAt ws p then [(p : Int)] else []) := by
  unfold memU
  rw [List.range_succ, List.filter_append, List.map_append]
  congr 1
  by_cases h : bitAt ws p = true
  · simp [h]
  · simp [h]
theorem memU_skip {ws : List Nat} {p : Nat} : ∀ d, (∀ j, p ≤ j → j < p + d → bitAt ws j = false) → memU ws (p + d) = memU ws p
  | 0, _ => rfl
  | d + 1, h => by
    rw [show p + (d + 1) = (p + d) + 1 by omega, memU_succ, h (p + d) (by omega) (by omega)]
    simp only [Bool.false_eq_true, if_false, List.append_nil]
    exact memU_skip d (fun j h1 h2 => h j h1 (by omega))
theorem memU_to {ws : List Nat} {p q : Nat} (hq : p ≤ q) (h : ∀ j, p ≤ j → j < q → bitAt ws j = false) : memU ws q = memU ws p := by
  have := memU_skip (ws := ws) (p := p) (q - p) (fun j h1 h2 => h j h1 (by omega))
  rwa [show p + (q - p) = q by omega] at this
theorem memU_next {ws : List Nat} {p q : Nat} (hq : p ≤ q) (h : ∀ j, p ≤ j → j < q → bitAt ws j = false) (hb : bitAt ws q = true) : memU ws (q + 1) = memU ws p ++ [(q : Int)] := by
  rw [memU_succ, memU_to hq h, hb]
  rfl
theorem memU_prefix (ws : List Nat) {p q : Nat} (h : p ≤ q) : memU ws p <+: memU ws q := by
  induction q with
  | zero =>
    obtain rfl : p = 0 := by omega
    exact List.prefix_rfl
  | succ q ih =>
    rcases Nat.lt_or_ge p (q + 1) with h1 | h1
    · rw [memU_succ]
      exact (ih (by omega)).trans (List.prefix_append _ _)
    · obtain rfl : p = q + 1 := by omega
      exact List.prefix_rfl
/-- All members. -/
theorem mem_all {n : Nat} {ws : List Nat} (hr : RightS n ws) : memU ws (64 * ws.length) = memU ws (2 ^ n) := by
  have hl := hr.len
  rcases Nat.lt_or_ge n 6 with hn | hn
  · have hp := pow_small hn
    rw [wid_small hn] at hl
    refine memU_to (by omega) (fun j h1 h2 => ?_)
    unfold bitAt
    rw [show j / 64 = 0 by omega, show j % 64 = j by omega]
    cases h0 : ws[0]? with
    | none => simp
    | some w0 =>
      have := hr.first w0 h0
      exact Nat.testBit_lt_two_pow (Nat.lt_of_lt_of_le this (Nat.pow_le_pow_right (by omega) (by omega)))
  · rw [hl, wid_great hn, pow_dvd hn]
theorem low_bits64 {x : Nat} (h0 : 0 < x) (h : x < 2 ^ 64) : x.testBit (Lib.ctz 64 x) = true ∧ (∀ j, j < Lib.ctz 64 x → x.testBit j = false) ∧ (∀ j, (x &&& (x - 1)).testBit j = (decide (Lib.ctz 64 x < j) && x.testBit j)) ∧ Lib.ctz 64 x < 64 := by
  unfold Lib.ctz
  rw [if_neg (by omega)]
  obtain ⟨m, hm, hk⟩ := Lib.ctzFrom_spec 64 x h0 h
  generalize Lib.ctzFrom 64 x = k at *
  have hp : 0 < 2 ^ k := Nat.two_pow_pos k
  have hx1 : x - 1 = 2 ^ k * (2 * m) + (2 ^ k - 1) := by rw [hm, Nat.mul_add]; omega
  have hb : ∀ j, x.testBit j = (decide (k ≤ j) && (2 * m + 1).testBit (j - k)) := fun j => by rw [hm, Nat.testBit_two_pow_mul]
  have hb1 : ∀ j, (x - 1).testBit j = if j < k then decide (j < k) else (2 * m).testBit (j - k) := fun j => by
    rw [hx1, Nat.testBit_two_pow_mul_add _ (by omega), Nat.testBit_two_pow_sub_one]
  refine ⟨by rw [hb, Nat.sub_self, Nat.testBit_zero]; simp, fun j hj => by rw [hb, decide_eq_false (by omega)]; rfl, fun j => ?_, hk⟩
  rw [Nat.testBit_and, hb, hb1]
  rcases Nat.lt_trichotomy j k with h1 | h1 | h1
  · rw [decide_eq_false (by omega), decide_eq_false (show ¬ k < j by omega)]; simp
  · subst h1
    rw [if_neg (by omega), Nat.sub_self, decide_eq_false (show ¬ j < j by omega)]
    simp
  · obtain ⟨d, hd⟩ : ∃ d, j - k = d + 1 := ⟨j - k - 1, by omega⟩
    rw [if_neg (by omega), hd, Nat.testBit_succ, Nat.testBit_succ, show (2 * m + 1) / 2 = m by omega, show 2 * m / 2 = m by omega, decide_eq_true (show k ≤ j by omega), decide_eq_true h1]
    simp
/-- What is left of a word from bit v on. -/
def remOk (ws : List Nat) (i v rem : Nat) : Prop := ∀ j, j < 64 → rem.testBit j = (decide (v ≤ j) && bitAt ws (64 * i + j))
theorem rem_start {ws : List Nat} {i y : Nat} (h : ws[i]? = some y) : remOk ws i 0 y := by
  intro j hj
  rw [place_put hj, h]
  simp
theorem rem_zero {ws : List Nat} {i v : Nat} (h : remOk ws i v 0) (hv : v ≤ 64) : memU ws (64 * (i + 1)) = memU ws (64 * i + v) := by
  refine memU_to (by omega) (fun j h1 h2 => ?_)
  have := h (j - 64 * i) (by omega)
  rw [Nat.zero_testBit, decide_eq_true (by omega), Bool.true_and, show 64 * i + (j - 64 * i) = j by omega] at this
  exact this.symm
theorem rem_step {ws : List Nat} {i v rem k : Nat} (h : remOk ws i v rem) (h1 : rem.testBit k = true) (h2 : ∀ j, j < k → rem.testBit j = false) (hk : k < 64) : v ≤ k ∧ memU ws (64 * i + k + 1) = memU ws (64 * i + v) ++ [((64 * i + k : Nat) : Int)] := by
  have hh := h k hk
  rw [h1] at hh
  have hb : decide (v ≤ k) = true ∧ bitAt ws (64 * i + k) = true := by simpa using hh.symm
  have hv : v ≤ k := of_decide_eq_true hb.1
  refine ⟨hv, memU_next (by omega) (fun j j1 j2 => ?_) hb.2⟩
  have := h (j - 64 * i) (by omega)
  rw [h2 _ (by omega), decide_eq_true (by omega), Bool.true_and, show 64 * i + (j - 64 * i) = j by omega] at this
  exact this.symm
theorem rem_pass {ws : List Nat} {i v rem k x : Nat} (h : remOk ws i v rem) (hv : v ≤ k) (hx : ∀ j, x.testBit j = (decide (k < j) && rem.testBit j)) : remOk ws i (k + 1) x := by
  intro j hj
  rw [hx, h j hj]
  by_cases hkj : k < j
  · rw [decide_eq_true hkj, decide_eq_true (show v ≤ j by omega), decide_eq_true (show k + 1 ≤ j by omega)]; rfl
  · rw [decide_eq_false hkj, decide_eq_false (show ¬ k + 1 ≤ j by omega)]; rfl
end Go.Proofs.YtlliihognnnpmaaDoor
