/- The document's side: sizes, values. -/
import Derived.Test.YtldpmbifngeopaaBase
namespace Go.Proofs.Ytldpmbifngeopaa
open Go.RowKit PermMath

theorem pow_pos' (n : Nat) : 0 < 2 ^ n := Nat.two_pow_pos n
def SizeRel (n : Nat) (i s : Value) : Prop := ∃ k : Nat, k ≤ n ∧ i = .int .i64 (k : Int) ∧ s = .int .i64 ((2 ^ k : Nat) : Int)
theorem pow_le62 {k : Nat} (h : k ≤ 61) : 2 ^ k ≤ 2305843009213693952 := Nat.pow_le_pow_right (n := 2) (j := 61) (by omega) h
set_option maxRecDepth 100000 in
theorem size_any (n : Nat) (w : World) (hn : n ≤ 61) : Calls Try.prog 24 #[.int .i64 (n : Int)] w (fun e w' => e = .returned (.int .i64 ((2 ^ n : Nat) : Int)) ∧ w = w') := by
  go_enter Try.func24, Try.ntmps24
  go_wp2
  go_loop [4, 3] (SizeRel n) (fun i _ => n - (intOf i).toNat)
  case atStart => exact ⟨0, Nat.zero_le _, rfl, rfl⟩
  case round =>
    obtain ⟨k, hk, rfl, rfl⟩ := hrel
    have hp := pow_le62 (k := k) (by omega)
    have hps := Nat.pow_succ (n := 2) (m := k)
    by_cases hlt : k < n
    · generalize 2 ^ k = p at *
      go_wp2
      go_round
      case rel => exact ⟨k + 1, by omega, by go_num, by rw [hps]; go_num⟩
      case measure => simp [intOf]; omega
    · obtain rfl : k = n := by omega
      generalize hpk : 2 ^ k = p at *
      go_wp2
      go_ret
      exact ⟨ret_int (by first | rfl | rw [hpk]), rfl⟩

set_option maxRecDepth 100000 in
theorem value_any (x v : Nat) (w : World) (hv : v ≤ 61) (hx : x < 2 ^ 63) : Calls Try.prog 33 #[.int .i64 (x : Int), .int .i64 (v : Int)] w (fun e w' => e = .returned (.int .i64 ((x / 2 ^ v % 2 : Nat) : Int)) ∧ w = w') := by
  have H := Lib.hid (fun w1 => size_any v w1 hv)
  have hp := pow_pos' v
  have hp2 := pow_le62 hv
  have hd : ((x : Int) / ((2 ^ v : Nat) : Int)) = ((x / 2 ^ v : Nat) : Int) := by rw [Int.natCast_ediv]
  have hlt : x / 2 ^ v < 2 ^ 63 := Nat.lt_of_le_of_lt (Nat.div_le_self _ _) hx
  generalize x / 2 ^ v = q at *
  generalize 2 ^ v = p at *
  go_enter Try.func33, Try.ntmps33
  go_wp2_with fail
  refine (H.out _).mono ?_
  rintro e w1 ⟨rfl, rfl⟩
  go_wp2
  go_ret
  exact ⟨ret_int (by rw [Int.natCast_emod]; rfl), rfl⟩
end Go.Proofs.Ytldpmbifngeopaa
