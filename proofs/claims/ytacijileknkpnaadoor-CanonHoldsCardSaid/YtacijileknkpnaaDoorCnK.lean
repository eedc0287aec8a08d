/- A bit of a number, and the document's cube: the walks; no statement of the seat. -/
import Derived.Test.YtacijileknkpnaaDoorDtA
import Derived.Test.YtacijileknkpnaaDoorGcM
namespace Go.Proofs.YtacijileknkpnaaDoor
open Go.RowKit Sq StoreMath
set_option maxHeartbeats 4000000
set_option maxRecDepth 100000

theorem bval_any (x v : Nat) (w : World) (hv : v ≤ 61) (hx : x < 9223372036854775808) : Calls Tryd.prog 31 #[.int .i64 (x : Int), .int .i64 (v : Int)] w (fun e w' => e = .returned (.int .i64 (((x.testBit v).toNat : Nat) : Int)) ∧ w' = w) := by
  have H := Lib.hid (fun w1 => size_any v w1 hv)
  have hp : 0 < 2 ^ v := Nat.two_pow_pos v
  have hp2 := pow_le62 hv
  have hd : ((x : Int) / ((2 ^ v : Nat) : Int)) = ((x / 2 ^ v : Nat) : Int) := by rw [Int.natCast_ediv]
  have hlt : x / 2 ^ v < 9223372036854775808 := Nat.lt_of_le_of_lt (Nat.div_le_self _ _) hx
  rw [Nat.toNat_testBit]
  generalize x / 2 ^ v = q at *
  generalize 2 ^ v = p at *
  go_enter Tryd.func31, Tryd.ntmps31
  go_wp2_with fail
  refine (H.out _).mono ?_
  rintro e w1 ⟨rfl, rfl⟩
  go_wp2
  go_ret
  exact ⟨ret_int (by rw [Int.natCast_emod]; rfl), rfl⟩
/-- Between two rows. -/
def CuoR (w0 : World) (M g K l o z : Nat) (y : Value) (wr : World) : Prop := ∃ (k : Nat) (us : List Value), k ≤ M ∧ y = .int .i64 (k : Int) ∧ us.length = M ∧ (∀ i, i < k → us[i]? = some (.bool (okC o z K l i K))) ∧ wr.ownsRow w0.heap.size 4 1 (.slice (some ⟨g, 0, none⟩) M M) M us ∧ Below w0.heap.size w0 wr
/-- Within a row, between two levels. -/
def CuiR (w0 : World) (M g K l o z k : Nat) (p : Value) (wr : World) : Prop := ∃ (j : Nat) (us : List Value), j ≤ K ∧ p = .int .i64 ((l + j : Nat) : Int) ∧ us.length = M ∧ (∀ i, i < k → us[i]? = some (.bool (okC o z K l i K))) ∧ us[k]? = some (.bool (okC o z K l k j)) ∧ wr.ownsRow w0.heap.size 4 1 (.slice (some ⟨g, 0, none⟩) M M) M us ∧ Below w0.heap.size w0 wr
end Go.Proofs.YtacijileknkpnaaDoor
