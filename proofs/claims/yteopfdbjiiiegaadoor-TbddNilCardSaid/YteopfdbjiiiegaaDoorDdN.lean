/- What no store tells: the walk; no statement of the seat. -/
import Derived.Test.YteopfdbjiiiegaaDoorDdL
import Derived.Test.YteopfdbjiiiegaaDoorDdE
namespace Go.Proofs.YteopfdbjiiiegaaDoor
open Go.RowKit Sq StoreMath ArenaMath IndexMath MarkMath
set_option maxHeartbeats 4000000
set_option maxRecDepth 100000

theorem lnil_any (l : Int) (t1 u1 t2 u2 : Nat) (w : World) : Calls Tryd.prog 6 #[.int .i64 l, Nd.edgeV t1 u1, Nd.edgeV t2 u2] w (RetV w (.bool true)) := by
  obtain ⟨w0, hw0, hb, d0, d1, d2, d3⟩ := BoxE2 w t1 u1 t2 u2
  have HA := Lib.hid (alive_any w0)
  have HM := Lib.hid (fun W => bmake_nil l t1 u1 t2 u2 W)
  have HV := Lib.hid (fun W => bview_nil t1 u1 l W)
  have HR := Lib.hid (fun W => bright_nil t2 u2 l W)
  have HD : Hid (∀ w1, Below w0.heap.size w0 w1 → w1.cell? ⟨w.heap.size, 0, none⟩ = some (.int .u8 (t1 : Int)) ∧ w1.cell? ⟨w.heap.size, 1, none⟩ = some (.int .u32 (u1 : Int)) ∧
    w1.cell? ⟨w.heap.size + 1, 0, none⟩ = some (.int .u8 (t2 : Int)) ∧ w1.cell? ⟨w.heap.size + 1, 1, none⟩ = some (.int .u32 (u2 : Int))) := Lib.hid (fun w1 hb1 => ⟨Nd.cell_below d0 hb1, Nd.cell_below d1 hb1, Nd.cell_below d2 hb1, Nd.cell_below d3 hb1⟩)
  have HB := Lib.hid hb
  clear hb
  go_enter Tryd.func6, Tryd.ntmps6
  go_upto_region 1 with fail
  rw [← hw0]
  clear hw0
  go_wp2_with fail
  refine HA.out.mono ?_
  clear d0 d1 d2 d3
  rintro e w1 ⟨rfl, hb1⟩
  obtain ⟨d0, d1, d2, d3⟩ := HD.out w1 hb1
  have HB1 := Lib.hid hb1
  clear hb1 HA
  go_wp2_with fail
  refine (HM.out w1).mono ?_
  clear d0 d1 d2 d3
  rintro e w2 ⟨rfl, hb2⟩
  obtain ⟨w3, hw3⟩ : ∃ W, W = w2.alloc (.cells #[.int .u8 0, .int .u32 0] 32) := ⟨_, rfl⟩
  have hb3 : Below w2.heap.size w2 w3 := by rw [hw3]; exact new_below _ _
  have hg3 : w3.heap[w2.heap.size]? = some (.cells #[.int .u8 0, .int .u32 0] 32) := by rw [hw3]; exact alloc_new _ _
  have HB3 := Lib.hid (Below.step HB1.out (Below.step hb2 hb3))
  have HG3 := Lib.hid hg3
  obtain ⟨d0, d1, d2, d3⟩ := HD.out w3 HB3.out
  clear hb2 hb3 hg3 HM HB1
  go_upto_region 5 with fail
  rw [← hw3]
  clear hw3
  go_wp2_with fail
  refine (HV.out w3).mono ?_
  clear d0 d1 d2 d3
  rintro e w4 ⟨rfl, hb4⟩
  obtain ⟨w5, hw5, hb5, hs5, hg5, hg5'⟩ := Nd.New2 w4 (.cells #[.int .u8 0, .int .u32 0] 32) (.cells #[.int .u8 0, .int .u32 0] 32)
  have hb45 := Below.step hb4 hb5
  have HB5 := Lib.hid (Below.step HB3.out hb45)
  have hg := Nd.block_below HG3.out hb45
  have e0 : w5.cell? ⟨w2.heap.size, 0, none⟩ = some (.int .u8 0) := block_cell hg
  have e1 : w5.cell? ⟨w2.heap.size, 1, none⟩ = some (.int .u32 0) := block_cell hg
  have e2 : w5.cell? ⟨w4.heap.size, 0, none⟩ = some (.int .u8 0) := block_cell hg5
  have e3 : w5.cell? ⟨w4.heap.size, 1, none⟩ = some (.int .u32 0) := block_cell hg5
  have e4 : w5.cell? ⟨w4.heap.size + 1, 0, none⟩ = some (.int .u8 0) := block_cell hg5'
  have e5 : w5.cell? ⟨w4.heap.size + 1, 1, none⟩ = some (.int .u32 0) := block_cell hg5'
  obtain ⟨d0, d1, d2, d3⟩ := HD.out w5 HB5.out
  have hq : ∀ W, (binOp .eql 32 (.agg #[.int .u8 0, .int .u32 0]) (.agg #[.int .u8 0, .int .u32 0])).run Tryd.prog W = .ok (.bool true) W := fun W => Nd.eql24 W 0 0 0 0
  clear hb4 hb5 hb45 hg hg5 hg5' hs5 HV HB3 HG3
  go_upto_region 6 with fail
  rw [← hw5]
  clear hw5
  go_wp2_with fail
  refine (HR.out w5).mono ?_
  rintro e w6 ⟨rfl, hb6⟩
  go_wp2_with fail
  go_ret
  exact ⟨rfl, Below.step HB.out (Below.step HB5.out hb6)⟩
end Go.Proofs.YteopfdbjiiiegaaDoor
