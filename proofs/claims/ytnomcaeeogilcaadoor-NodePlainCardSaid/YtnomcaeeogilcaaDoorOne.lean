/- The edge at the end. -/
import Derived.Test.YtnomcaeeogilcaaDoorForms
namespace Go.Proofs.YtnomcaeeogilcaaDoor
open Go.RowKit NodeMath

set_option maxRecDepth 100000 in
set_option maxHeartbeats 2000000 in
theorem one_out (f : Nat) (n : Int) (w : World) (hn : ¬ (0 ≤ n ∧ n ≤ 16)) : Calls Tryd.prog 9 #[.int .u8 (f : Int), .int .i64 n] w (RetV w (edgeV 0 0)) := by
  have HC := Lib.hid (fun w1 => canBe_any n w1)
  rw [decide_eq_false hn] at HC
  clear hn
  go_enter Tryd.func9, Tryd.ntmps9
  go_wp2_with fail
  refine (HC.out _).mono ?_
  rintro e w1 ⟨rfl, rfl⟩
  go_wp2
  refine bodyPost_ret (v := edgeV 0 0) (by simp [results, Tryd.results9, go_sem]) rfl ?_
  exact ⟨rfl, below_new _ _⟩
set_option maxRecDepth 100000 in
set_option maxHeartbeats 2000000 in
theorem one_1 (n : Int) (w : World) (hn : 0 ≤ n ∧ n ≤ 16) : Calls Tryd.prog 9 #[.int .u8 1, .int .i64 n] w (RetV w (edgeV 0 1)) := by
  have HC := Lib.hid (fun w1 => canBe_any n w1)
  rw [decide_eq_true hn] at HC
  clear hn
  go_enter Tryd.func9, Tryd.ntmps9
  go_wp2_with fail
  refine (HC.out _).mono ?_
  rintro e w1 ⟨rfl, rfl⟩
  go_wp2
  refine bodyPost_ret (v := edgeV 0 1) (by simp [results, Tryd.results9, go_sem]) rfl ?_
  exact ⟨rfl, below_new _ _⟩
set_option maxRecDepth 100000 in
set_option maxHeartbeats 2000000 in
theorem one_2 (n : Int) (w : World) (hn : 0 ≤ n ∧ n ≤ 16) : Calls Tryd.prog 9 #[.int .u8 2, .int .i64 n] w (RetV w (edgeV 0 1)) := by
  have HC := Lib.hid (fun w1 => canBe_any n w1)
  rw [decide_eq_true hn] at HC
  clear hn
  go_enter Tryd.func9, Tryd.ntmps9
  go_wp2_with fail
  refine (HC.out _).mono ?_
  rintro e w1 ⟨rfl, rfl⟩
  go_wp2
  refine bodyPost_ret (v := edgeV 0 1) (by simp [results, Tryd.results9, go_sem]) rfl ?_
  exact ⟨rfl, below_new _ _⟩
set_option maxRecDepth 100000 in
set_option maxHeartbeats 2000000 in
theorem one_3 (n : Int) (w : World) (hn : 0 ≤ n ∧ n ≤ 16) : Calls Tryd.prog 9 #[.int .u8 3, .int .i64 n] w (RetV w (edgeV 0 1)) := by
  have HC := Lib.hid (fun w1 => canBe_any n w1)
  rw [decide_eq_true hn] at HC
  clear hn
  go_enter Tryd.func9, Tryd.ntmps9
  go_wp2_with fail
  refine (HC.out _).mono ?_
  rintro e w1 ⟨rfl, rfl⟩
  go_wp2
  refine bodyPost_ret (v := edgeV 0 1) (by simp [results, Tryd.results9, go_sem]) rfl ?_
  exact ⟨rfl, below_new _ _⟩
set_option maxRecDepth 100000 in
set_option maxHeartbeats 2000000 in
theorem one_4 (n : Int) (w : World) (hn : 0 ≤ n ∧ n ≤ 16) : Calls Tryd.prog 9 #[.int .u8 4, .int .i64 n] w (RetV w (edgeV 0 1)) := by
  have HC := Lib.hid (fun w1 => canBe_any n w1)
  rw [decide_eq_true hn] at HC
  clear hn
  go_enter Tryd.func9, Tryd.ntmps9
  go_wp2_with fail
  refine (HC.out _).mono ?_
  rintro e w1 ⟨rfl, rfl⟩
  go_wp2
  refine bodyPost_ret (v := edgeV 0 1) (by simp [results, Tryd.results9, go_sem]) rfl ?_
  exact ⟨rfl, below_new _ _⟩
set_option maxRecDepth 100000 in
set_option maxHeartbeats 2000000 in
theorem one_5 (m : Nat) (w : World) (hn : 0 ≤ (m : Int) ∧ (m : Int) ≤ 16) : Calls Tryd.prog 9 #[.int .u8 5, .int .i64 (m : Int)] w (RetV w (edgeV m 1)) := by
  have hw1 : IntKind.u8.wrap (m : Int) = (m : Int) := by rw [IntKind.wrap_u8]; omega
  have HC := Lib.hid (fun w1 => canBe_any (m : Int) w1)
  rw [decide_eq_true hn] at HC
  clear hn
  go_enter Tryd.func9, Tryd.ntmps9
  go_wp2_with fail
  refine (HC.out _).mono ?_
  rintro e w1 ⟨rfl, rfl⟩
  go_wp2
  refine bodyPost_ret (v := edgeV m 1) (by simp [results, Tryd.results9, go_sem]) rfl ?_
  exact ⟨rfl, below_new _ _⟩
set_option maxRecDepth 100000 in
set_option maxHeartbeats 2000000 in
theorem one_else (f : Nat) (n : Int) (w : World) (hn : 0 ≤ n ∧ n ≤ 16) (h : ¬ (1 ≤ f ∧ f ≤ 5)) : Calls Tryd.prog 9 #[.int .u8 (f : Int), .int .i64 n] w (RetV w (edgeV 0 0)) := by
  have e1 : ((f : Int) == 1) = false := by rw [beq_eq_false_iff_ne]; omega
  have e2 : ((f : Int) == 2) = false := by rw [beq_eq_false_iff_ne]; omega
  have e3 : ((f : Int) == 3) = false := by rw [beq_eq_false_iff_ne]; omega
  have e4 : ((f : Int) == 4) = false := by rw [beq_eq_false_iff_ne]; omega
  have e5 : ((f : Int) == 5) = false := by rw [beq_eq_false_iff_ne]; omega
  clear h
  have HC := Lib.hid (fun w1 => canBe_any n w1)
  rw [decide_eq_true hn] at HC
  clear hn
  go_enter Tryd.func9, Tryd.ntmps9
  go_wp2_with fail
  refine (HC.out _).mono ?_
  rintro e w1 ⟨rfl, rfl⟩
  go_wp2
  refine bodyPost_ret (v := edgeV 0 0) (by simp [results, Tryd.results9, go_sem]) rfl ?_
  exact ⟨rfl, below_new _ _⟩
end Go.Proofs.YtnomcaeeogilcaaDoor
