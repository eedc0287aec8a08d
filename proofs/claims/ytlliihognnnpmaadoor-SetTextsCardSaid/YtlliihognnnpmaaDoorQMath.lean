/- Quantified sets and tables, variable by variable; the lowest bit. -/
import Derived.Test.YtlliihognnnpmaaDoorWith2
import Derived.Lib.TrailingZeros
namespace Go.Proofs.YtlliihognnnpmaaDoor
open SetMath

/-- Both halves of a set joined, word by word; for the variables below v that are among vs. -/
def joinW (each : Bool) (a b : Nat) : Nat := if each then a &&& b else a ||| b
theorem joinW_lt {each : Bool} {a b : Nat} (ha : a < 2 ^ 64) (hb : b < 2 ^ 64) : joinW each a b < 2 ^ 64 := by
  unfold joinW
  split
  · exact Nat.and_lt_two_pow _ hb
  · exact Nat.or_lt_two_pow ha hb
def stepW (each : Bool) (n : Nat) (ws : List Nat) (v : Nat) : List Nat := mk n fun i => joinW each (halfW ws v true i) (halfW ws v false i)
def qPre (each : Bool) (n vs : Nat) (ws : List Nat) : Nat → List Nat
  | 0 => ws
  | v + 1 => if vs.testBit v then stepW each n (qPre each n vs ws v) v else qPre each n vs ws v
theorem qPre_right {each : Bool} {n vs : Nat} {ws : List Nat} (hr : RightS n ws) : ∀ v, RightS n (qPre each n vs ws v)
  | 0 => hr
  | v + 1 => by
    rw [qPre]
    split
    · exact mk_right hr.le _
    · exact qPre_right hr v
theorem qPre_skip {each : Bool} {n vs : Nat} {ws : List Nat} {v : Nat} : ∀ d, (∀ j, v ≤ j → j < v + d → vs.testBit j = false) → qPre each n vs ws (v + d) = qPre each n vs ws v
  | 0, _ => rfl
  | d + 1, h => by
    rw [show v + (d + 1) = (v + d) + 1 by omega, qPre, if_neg (by rw [h (v + d) (by omega) (by omega)]; decide)]
    exact qPre_skip d (fun j h1 h2 => h j h1 (by omega))
theorem qPre_to {each : Bool} {n vs : Nat} {ws : List Nat} {v k : Nat} (hk : v ≤ k) (h : ∀ j, v ≤ j → j < k → vs.testBit j = false) : qPre each n vs ws k = qPre each n vs ws v := by
  have := qPre_skip (each := each) (n := n) (vs := vs) (ws := ws) (v := v) (k - v) (fun j h1 h2 => h j h1 (by omega))
  rwa [show v + (k - v) = k by omega] at this

/-- The lowest bit. -/
theorem low_bits {x : Nat} (h0 : 0 < x) (h : x < 65536) : x.testBit (Lib.ctz 16 x) = true ∧ (∀ j, j < Lib.ctz 16 x → x.testBit j = false) ∧ (∀ j, (x &&& (x - 1)).testBit j = (decide (Lib.ctz 16 x < j) && x.testBit j)) ∧ Lib.ctz 16 x < 16 := by
  unfold Lib.ctz
  rw [if_neg (by omega)]
  obtain ⟨m, hm, hk⟩ := Lib.ctzFrom_spec 16 x h0 h
  generalize Lib.ctzFrom 16 x = k at *
  have hp : 0 < 2 ^ k := Nat.two_pow_pos k
  have hx1 : x - 1 = 2 ^ k * (2 * m) + (2 ^ k - 1) := by rw [hm, Nat.mul_add]; omega
  have hb : ∀ j, x.testBit j = (decide (k ≤ j) && (2 * m + 1).testBit (j - k)) := fun j => by rw [hm, Nat.testBit_two_pow_mul]
  have hb1 : ∀ j, (x - 1).testBit j = if j < k then decide (j < k) else (2 * m).testBit (j - k) := fun j => by
    rw [hx1, Nat.testBit_two_pow_mul_add _ (by omega), Nat.testBit_two_pow_sub_one]
  refine ⟨by rw [hb, Nat.sub_self, Nat.testBit_zero]; simp, fun j hj => by rw [hb, decide_eq_false (by omega)]; rfl, fun j => ?_, hk⟩
  rw [Nat.testBit_and, hb, hb1]
  rcases Nat.lt_trichotomy j k with h1 | h1 | h1
  · rw [decide_eq_false (by omega), decide_eq_false (show ¬ k < j by omega)]; simp
  · subst h1
    rw [if_neg (by omega), Nat.sub_self, decide_eq_false (show ¬ j < j by omega)]
    simp
  · obtain ⟨d, hd⟩ : ∃ d, j - k = d + 1 := ⟨j - k - 1, by omega⟩
    rw [if_neg (by omega), hd, Nat.testBit_succ, Nat.testBit_succ, show (2 * m + 1) / 2 = m by omega, show 2 * m / 2 = m by omega, decide_eq_true (show k ≤ j by omega), decide_eq_true h1]
    simp
theorem and_pred_lt {x : Nat} (h : 0 < x) : x &&& (x - 1) < x := Nat.lt_of_le_of_lt Nat.and_le_right (by omega)

/-- The same of tables. -/
def joinB (each a b : Bool) : Bool := (a && b) || (!each && (a || b))
def stepT (each : Bool) (n : Nat) (t : List Bool) (v : Nat) : List Bool := (List.range (2 ^ n)).map fun x => joinB each ((t[putN x v false]?).getD false) ((t[putN x v true]?).getD false)
theorem stepT_len (each : Bool) (n : Nat) (t : List Bool) (v : Nat) : (stepT each n t v).length = 2 ^ n := by simp [stepT]
theorem stepT_at {each : Bool} {n : Nat} {t : List Bool} {v x : Nat} (h : x < 2 ^ n) : (stepT each n t v)[x]? = some (joinB each ((t[putN x v false]?).getD false) ((t[putN x v true]?).getD false)) := by simp [stepT, h]
def qT (each : Bool) (n vs : Nat) (t : List Bool) : Nat → List Bool
  | 0 => t
  | v + 1 => if vs.testBit v then stepT each n (qT each n vs t v) v else qT each n vs t v
theorem qT_len {each : Bool} {n vs : Nat} {t : List Bool} (h : t.length = 2 ^ n) : ∀ v, (qT each n vs t v).length = 2 ^ n
  | 0 => h
  | v + 1 => by
    rw [qT]
    split
    · exact stepT_len _ _ _ _
    · exact qT_len h v
theorem step_tab {each : Bool} {n v : Nat} {ws : List Nat} (hr : RightS n ws) (hv : v < n) : tab n (stepW each n ws v) = stepT each n (tab n ws) v := by
  apply List.ext_getElem?
  intro x
  rcases Nat.lt_or_ge x (2 ^ n) with hx | hx
  · rw [tab_at hx, stepT_at hx, tab_at (put_lt hx hv false), tab_at (put_lt hx hv true)]
    unfold stepW
    rw [mk_bit hx]
    have h1 := halfW_bit true hr hv hx
    have h2 := halfW_bit false hr hv hx
    congr 1
    unfold joinW joinB
    cases each
    · simp only [Bool.false_eq_true, if_false, Nat.testBit_or, h1, h2, Option.getD_some]
      cases bitAt ws (putN x v true) <;> cases bitAt ws (putN x v false) <;> rfl
    · simp only [if_true, Nat.testBit_and, h1, h2, Option.getD_some]
      cases bitAt ws (putN x v true) <;> cases bitAt ws (putN x v false) <;> rfl
  · rw [List.getElem?_eq_none (by rw [tab_len]; exact hx), List.getElem?_eq_none (by rw [stepT_len]; exact hx)]
theorem q_tab {each : Bool} {n vs : Nat} {ws : List Nat} (hr : RightS n ws) : ∀ v, v ≤ n → tab n (qPre each n vs ws v) = qT each n vs (tab n ws) v
  | 0, _ => rfl
  | v + 1, hv => by
    rw [qPre, qT]
    split
    · rw [step_tab (qPre_right hr v) (by omega), q_tab hr v (by omega)]
    · exact q_tab hr v (by omega)
theorem q_of {each : Bool} {n vs : Nat} {ws : List Nat} (hr : RightS n ws) : ofT (qT each n vs (tab n ws) n) = qPre each n vs ws n := by
  rw [← q_tab hr n (Nat.le_refl _)]
  exact of_tab (qPre_right hr n)
end Go.Proofs.YtlliihognnnpmaaDoor
