/- How many variables, words, bits: small functions of package set. -/
import Derived.Test.YtlliihognnnpmaaDoorBase
import Derived.Test.YtlliihognnnpmaaDoorMath
namespace Go.Proofs.YtlliihognnnpmaaDoor
open Go.RowKit SetMath

theorem upto16 {n : Nat} (h : n ≤ 16) : n = 0 ∨ n = 1 ∨ n = 2 ∨ n = 3 ∨ n = 4 ∨ n = 5 ∨ n = 6 ∨ n = 7 ∨ n = 8 ∨ n = 9 ∨ n = 10 ∨ n = 11 ∨ n = 12 ∨ n = 13 ∨ n = 14 ∨ n = 15 ∨ n = 16 := by omega

set_option maxRecDepth 100000 in
theorem rightVars_any (n : Int) (w : World) : Calls Tryd.prog 53 #[.int .i64 n] w (fun e w' => e = .returned (.bool (decide (0 ≤ n ∧ n ≤ 16))) ∧ w = w') := by
  by_cases h0 : 0 ≤ n
  · by_cases h1 : n ≤ 16
    · rw [decide_eq_true ⟨h0, h1⟩]
      go_enter Tryd.func53, Tryd.ntmps53
      go_wp2
      go_ret
      exact ⟨rfl, rfl⟩
    · rw [decide_eq_false (fun h => h1 h.2)]
      go_enter Tryd.func53, Tryd.ntmps53
      go_wp2
      go_ret
      exact ⟨rfl, rfl⟩
  · rw [decide_eq_false (fun h => h0 h.1)]
    go_enter Tryd.func53, Tryd.ntmps53
    go_wp2
    go_ret
    exact ⟨rfl, rfl⟩

set_option maxRecDepth 100000 in
theorem hasVar_any (n v : Int) (w : World) : Calls Tryd.prog 70 #[.int .i64 n, .int .i64 v] w (fun e w' => e = .returned (.bool (decide (0 ≤ v ∧ v < n))) ∧ w = w') := by
  by_cases h0 : 0 ≤ v
  · by_cases h1 : v < n
    · rw [decide_eq_true ⟨h0, h1⟩]
      go_enter Tryd.func70, Tryd.ntmps70
      go_wp2
      go_ret
      exact ⟨rfl, rfl⟩
    · rw [decide_eq_false (fun h => h1 h.2)]
      go_enter Tryd.func70, Tryd.ntmps70
      go_wp2
      go_ret
      exact ⟨rfl, rfl⟩
  · rw [decide_eq_false (fun h => h0 h.1)]
    go_enter Tryd.func70, Tryd.ntmps70
    go_wp2
    go_ret
    exact ⟨rfl, rfl⟩

set_option maxRecDepth 100000 in
set_option maxHeartbeats 1000000 in
theorem width_any (n : Nat) (w : World) (h : n ≤ 16) : Calls Tryd.prog 54 #[.int .i64 (n : Int)] w (fun e w' => e = .returned (.int .i64 (wid n : Int)) ∧ w = w') := by
  rcases upto16 h with rfl | rfl | rfl | rfl | rfl | rfl | rfl | rfl | rfl | rfl | rfl | rfl | rfl | rfl | rfl | rfl | rfl <;>
  · clear h
    go_enter Tryd.func54, Tryd.ntmps54
    go_wp2
    go_ret
    exact ⟨by first | rfl | decide, rfl⟩

set_option maxRecDepth 100000 in
set_option maxHeartbeats 1000000 in
theorem usedBits_any (n : Nat) (w : World) (h : n ≤ 16) : Calls Tryd.prog 55 #[.int .i64 (n : Int)] w (fun e w' => e = .returned (.int .u64 (used n : Int)) ∧ w = w') := by
  rcases upto16 h with rfl | rfl | rfl | rfl | rfl | rfl | rfl | rfl | rfl | rfl | rfl | rfl | rfl | rfl | rfl | rfl | rfl <;>
  · clear h
    go_enter Tryd.func55, Tryd.ntmps55
    go_wp2
    go_ret
    exact ⟨by first | rfl | decide, rfl⟩

/-- How many digits a set's text has. -/
def digN (n : Nat) : Nat := (2 ^ n + 3) / 4
set_option maxRecDepth 100000 in
set_option maxHeartbeats 1000000 in
theorem digitCount_any (n : Nat) (w : World) (h : n ≤ 16) : Calls Tryd.prog 94 #[.int .i64 (n : Int)] w (fun e w' => e = .returned (.int .i64 (digN n : Int)) ∧ w = w') := by
  rcases upto16 h with rfl | rfl | rfl | rfl | rfl | rfl | rfl | rfl | rfl | rfl | rfl | rfl | rfl | rfl | rfl | rfl | rfl <;>
  · clear h
    go_enter Tryd.func94, Tryd.ntmps94
    go_wp2
    go_ret
    exact ⟨by first | rfl | decide, rfl⟩
set_option maxRecDepth 100000 in
theorem digitPlace_any (p : Nat) (w : World) (h : p < 16384) : Calls Tryd.prog 95 #[.int .i64 (p : Int)] w (fun e w' => e = .returned (.tuple #[.int .i64 ((p / 16 : Nat) : Int), .int .i64 ((p % 16 * 4 : Nat) : Int)]) ∧ w = w') := by
  have h1 : (p : Int) * 4 / 64 = ((p / 16 : Nat) : Int) := by omega
  have h2 : (p : Int) * 4 % 64 = ((p % 16 * 4 : Nat) : Int) := by omega
  generalize p / 16 = q at *
  generalize p % 16 * 4 = r at *
  go_enter Tryd.func95, Tryd.ntmps95
  go_wp2
  go_ret2
  exact ⟨by simp [*], rfl⟩
end Go.Proofs.YtlliihognnnpmaaDoor
