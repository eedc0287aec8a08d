/- The five forms under one name: masks of levels, the edge to one, which forms there are; no statement of the seat. -/
import Derived.Test.YtacijileknkpnaaDoorGcM
import Derived.Test.YtacijileknkpnaaDoorSoX
import Derived.BigQuiet
namespace Go.Proofs.YtacijileknkpnaaDoor
open Go.RowKit Sq StoreMath ArenaMath IndexMath MarkMath
set_option maxHeartbeats 4000000
set_option maxRecDepth 100000

instance decIsF (f : Nat) : Decidable (IsF f) := by unfold IsF; exact inferInstance
theorem isF_iff {f : Nat} : IsF f ↔ 1 ≤ f ∧ f ≤ 5 := by unfold IsF; omega
theorem isForm_any (f : Nat) (w : World) : Calls Tryd.prog 93 #[.int .u8 (f : Int)] w (fun e w' => e = .returned (.bool (decide (IsF f))) ∧ w' = w) := by
  rcases Nd.forms f with rfl | rfl | rfl | rfl | rfl | ⟨h1, h2, h3, h4, h5⟩
  · go_enter Tryd.func93, Tryd.ntmps93
    go_wp2
    go_ret
    exact ⟨rfl, rfl⟩
  · go_enter Tryd.func93, Tryd.ntmps93
    go_wp2
    go_ret
    exact ⟨rfl, rfl⟩
  · go_enter Tryd.func93, Tryd.ntmps93
    go_wp2
    go_ret
    exact ⟨rfl, rfl⟩
  · go_enter Tryd.func93, Tryd.ntmps93
    go_wp2
    go_ret
    exact ⟨rfl, rfl⟩
  · go_enter Tryd.func93, Tryd.ntmps93
    go_wp2
    go_ret
    exact ⟨rfl, rfl⟩
  · have e1 := Nd.ne_beq h1
    have e2 := Nd.ne_beq h2
    have e3 := Nd.ne_beq h3
    have e4 := Nd.ne_beq h4
    have e5 := Nd.ne_beq h5
    rw [decide_eq_false (by unfold IsF; omega)]
    clear h1 h2 h3 h4 h5
    go_enter Tryd.func93, Tryd.ntmps93
    go_wp2
    go_ret
    exact ⟨rfl, rfl⟩
theorem one_1 (n : Nat) (w : World) (hn : n ≤ 16) : Calls Tryd.prog 46 #[.int .u8 1, .int .i64 (n : Int)] w (RetV w (Nd.edgeV 0 1)) := by
  have HC := Lib.hid (fun w1 => Nd.canBe_any (n : Int) w1)
  rw [decide_eq_true (by omega)] at HC
  clear hn
  go_enter Tryd.func46, Tryd.ntmps46
  go_wp2_with fail
  refine (HC.out _).mono ?_
  rintro e w1 ⟨rfl, rfl⟩
  go_wp2
  refine bodyPost_ret (v := Nd.edgeV 0 1) (by simp [results, Tryd.results46, go_sem]) rfl ?_
  exact ⟨rfl, new_below _ _⟩
theorem one_2 (n : Nat) (w : World) (hn : n ≤ 16) : Calls Tryd.prog 46 #[.int .u8 2, .int .i64 (n : Int)] w (RetV w (Nd.edgeV 0 1)) := by
  have HC := Lib.hid (fun w1 => Nd.canBe_any (n : Int) w1)
  rw [decide_eq_true (by omega)] at HC
  clear hn
  go_enter Tryd.func46, Tryd.ntmps46
  go_wp2_with fail
  refine (HC.out _).mono ?_
  rintro e w1 ⟨rfl, rfl⟩
  go_wp2
  refine bodyPost_ret (v := Nd.edgeV 0 1) (by simp [results, Tryd.results46, go_sem]) rfl ?_
  exact ⟨rfl, new_below _ _⟩
theorem one_3 (n : Nat) (w : World) (hn : n ≤ 16) : Calls Tryd.prog 46 #[.int .u8 3, .int .i64 (n : Int)] w (RetV w (Nd.edgeV 0 1)) := by
  have HC := Lib.hid (fun w1 => Nd.canBe_any (n : Int) w1)
  rw [decide_eq_true (by omega)] at HC
  clear hn
  go_enter Tryd.func46, Tryd.ntmps46
  go_wp2_with fail
  refine (HC.out _).mono ?_
  rintro e w1 ⟨rfl, rfl⟩
  go_wp2
  refine bodyPost_ret (v := Nd.edgeV 0 1) (by simp [results, Tryd.results46, go_sem]) rfl ?_
  exact ⟨rfl, new_below _ _⟩
theorem one_4 (n : Nat) (w : World) (hn : n ≤ 16) : Calls Tryd.prog 46 #[.int .u8 4, .int .i64 (n : Int)] w (RetV w (Nd.edgeV 0 1)) := by
  have HC := Lib.hid (fun w1 => Nd.canBe_any (n : Int) w1)
  rw [decide_eq_true (by omega)] at HC
  clear hn
  go_enter Tryd.func46, Tryd.ntmps46
  go_wp2_with fail
  refine (HC.out _).mono ?_
  rintro e w1 ⟨rfl, rfl⟩
  go_wp2
  refine bodyPost_ret (v := Nd.edgeV 0 1) (by simp [results, Tryd.results46, go_sem]) rfl ?_
  exact ⟨rfl, new_below _ _⟩
theorem one_5 (n : Nat) (w : World) (hn : n ≤ 16) : Calls Tryd.prog 46 #[.int .u8 5, .int .i64 (n : Int)] w (RetV w (Nd.edgeV n 1)) := by
  have hw1 : IntKind.u8.wrap (n : Int) = (n : Int) := by rw [IntKind.wrap_u8]; omega
  have HC := Lib.hid (fun w1 => Nd.canBe_any (n : Int) w1)
  rw [decide_eq_true (by omega)] at HC
  clear hn
  go_enter Tryd.func46, Tryd.ntmps46
  go_wp2_with fail
  refine (HC.out _).mono ?_
  rintro e w1 ⟨rfl, rfl⟩
  go_wp2
  refine bodyPost_ret (v := Nd.edgeV n 1) (by simp [results, Tryd.results46, go_sem]) rfl ?_
  exact ⟨rfl, new_below _ _⟩
theorem one_any (f n : Nat) (hf : IsF f) (w : World) (hn : n ≤ 16) : Calls Tryd.prog 46 #[.int .u8 (f : Int), .int .i64 (n : Int)] w (RetV w (Nd.edgeV (gFin f n true).1 (gFin f n true).2)) := by
  rcases hf with rfl | rfl | rfl | rfl | rfl
  · exact one_1 n w hn
  · exact one_2 n w hn
  · exact one_3 n w hn
  · exact one_4 n w hn
  · exact one_5 n w hn
/-- A mask of levels. -/
theorem levels_any (l m : Nat) (w : World) (hlm : l ≤ m) (hm : m ≤ 16) : Calls Tryd.prog 47 #[.int .i64 (l : Int), .int .i64 (m : Int)] w (RetV w (.int .u16 ((2 ^ m - 2 ^ l : Nat) : Int))) := by
  have hp : ∀ j : Nat, j ≤ 16 → IntKind.u16.wrap (2 ^ j) = ((2 ^ j % 65536 : Nat) : Int) := fun j _ => by
    have e : (2 : Int) ^ j = ((2 ^ j : Nat) : Int) := (Int.natCast_pow 2 j).symm
    rw [IntKind.wrap_u16, e]; omega
  have e1 := hp m hm
  have e2 := hp l (by omega)
  have e3 : IntKind.u16.wrap (((2 ^ m % 65536 : Nat) : Int) - ((2 ^ l % 65536 : Nat) : Int)) = ((2 ^ m - 2 ^ l : Nat) : Int) := by
    have h1 : 2 ^ m ≤ 2 ^ 16 := Nat.pow_le_pow_right (by omega) hm
    have h2 : 2 ^ l ≤ 2 ^ m := Nat.pow_le_pow_right (by omega) hlm
    have h3 : 0 < 2 ^ l := Nat.two_pow_pos l
    rw [IntKind.wrap_u16]
    omega
  have hl : l ≤ 16 := by omega
  generalize (2 ^ m - 2 ^ l : Nat) = q at *
  generalize (2 ^ m % 65536 : Nat) = p1 at *
  generalize (2 ^ l % 65536 : Nat) = p2 at *
  clear hp hlm
  go_enter Tryd.func47, Tryd.ntmps47
  go_wp2
  go_quiet (fail)
  go_wp2
  go_ret
  exact ⟨rfl, Nd.below_drewN (Below.refl _ _) _⟩
end Go.Proofs.YtacijileknkpnaaDoor
