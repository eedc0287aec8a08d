/- Forms and their names; numbers of variables; where an edge leads. -/
import Derived.Test.YtheeohklceieeaaDoorNdBase
namespace Go.Proofs.YtheeohklceieeaaDoor.Nd
open Go.RowKit NodeMath

theorem forms (f : Nat) : f = 1 ∨ f = 2 ∨ f = 3 ∨ f = 4 ∨ f = 5 ∨ (f ≠ 1 ∧ f ≠ 2 ∧ f ≠ 3 ∧ f ≠ 4 ∧ f ≠ 5) := by omega
theorem ne_beq {f k : Nat} (h : f ≠ k) : ((f : Int) == (k : Int)) = false := by rw [beq_eq_false_iff_ne]; omega
set_option maxRecDepth 100000 in
theorem chained_any (f : Nat) (w : World) : Calls Tryd.prog 68 #[.int .u8 (f : Int)] w (fun e w' => e = .returned (.bool (decide (f = 3 ∨ f = 4))) ∧ w' = w) := by
  rcases forms f with rfl | rfl | rfl | rfl | rfl | ⟨h1, h2, h3, h4, h5⟩
  · go_enter Tryd.func68, Tryd.ntmps68
    go_wp2
    go_ret
    exact ⟨rfl, rfl⟩
  · go_enter Tryd.func68, Tryd.ntmps68
    go_wp2
    go_ret
    exact ⟨rfl, rfl⟩
  · go_enter Tryd.func68, Tryd.ntmps68
    go_wp2
    go_ret
    exact ⟨rfl, rfl⟩
  · go_enter Tryd.func68, Tryd.ntmps68
    go_wp2
    go_ret
    exact ⟨rfl, rfl⟩
  · go_enter Tryd.func68, Tryd.ntmps68
    go_wp2
    go_ret
    exact ⟨rfl, rfl⟩
  · have e1 := ne_beq h1
    have e2 := ne_beq h2
    have e3 := ne_beq h3
    have e4 := ne_beq h4
    have e5 := ne_beq h5
    rw [show decide (f = 3 ∨ f = 4) = false from decide_eq_false (by omega)]
    go_enter Tryd.func68, Tryd.ntmps68
    go_wp2
    go_ret
    exact ⟨rfl, rfl⟩
set_option maxRecDepth 100000 in
theorem canBe_any (n : Int) (w : World) : Calls Tryd.prog 48 #[.int .i64 n] w (fun e w' => e = .returned (.bool (decide (0 ≤ n ∧ n ≤ 16))) ∧ w' = w) := by
  by_cases h1 : 0 ≤ n
  · by_cases h2 : n ≤ 16
    · rw [show decide (0 ≤ n ∧ n ≤ 16) = true from decide_eq_true ⟨h1, h2⟩]
      go_enter Tryd.func48, Tryd.ntmps48
      go_wp2
      go_ret
      exact ⟨rfl, rfl⟩
    · rw [show decide (0 ≤ n ∧ n ≤ 16) = false from decide_eq_false (by omega)]
      go_enter Tryd.func48, Tryd.ntmps48
      go_wp2
      go_ret
      exact ⟨rfl, rfl⟩
  · rw [show decide (0 ≤ n ∧ n ≤ 16) = false from decide_eq_false (by omega)]
    go_enter Tryd.func48, Tryd.ntmps48
    go_wp2
    go_ret
    exact ⟨rfl, rfl⟩
set_option maxRecDepth 100000 in
theorem toNothing_any (tag a : Nat) (w : World) : Calls Tryd.prog 49 #[edgeV tag a] w (RetV w (.bool (decide (a = 0)))) := by
  by_cases h : a = 0
  · subst h
    go_enter Tryd.func49, Tryd.ntmps49
    go_wp2
    go_ret
    exact ⟨rfl, below_new _ _⟩
  · have e : ((a : Int) == 0) = false := by rw [beq_eq_false_iff_ne]; omega
    rw [decide_eq_false h]
    go_enter Tryd.func49, Tryd.ntmps49
    go_wp2
    go_ret
    exact ⟨rfl, below_new _ _⟩
end Go.Proofs.YtheeohklceieeaaDoor.Nd
