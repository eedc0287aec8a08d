/- What no store tells, of any form: the walk; no statement of the seat. -/
import Derived.Test.YtacijileknkpnaaDoorCnN
import Derived.Test.YtacijileknkpnaaDoorCnG
import Derived.Test.YtacijileknkpnaaDoorCnL
namespace Go.Proofs.YtacijileknkpnaaDoor
open Go.RowKit Sq StoreMath ArenaMath IndexMath MarkMath
set_option maxHeartbeats 4000000
set_option maxRecDepth 100000

theorem cholds_nil (f t u : Nat) (l : Int) (x : Nat) (w : World) : Calls Tryd.prog 7 #[.pointer none, .int .u8 (f : Int), Nd.edgeV t u, .int .i64 l, .int .u16 (x : Int)] w (RetV w (.tuple #[.bool false, .int .u8 2])) := by
  obtain ⟨w0, hw0, hb, d0, d1, hlt⟩ := BoxE w t u
  have HC := Lib.hid (ccheckE_nil f t u l w0)
  have HB := Lib.hid hb
  clear hb hlt
  go_enter Tryd.func7, Tryd.ntmps7
  go_upto_region 1 with fail
  rw [← hw0]
  clear hw0
  go_wp2_with fail
  refine HC.out.mono ?_
  clear d0 d1
  rintro e w1 ⟨rfl, hb1⟩
  have HE := Lib.hid (Below.step HB.out hb1)
  clear hb1
  go_wp2_with fail
  go_ret2
  exact ⟨rfl, HE.out⟩
theorem lnil_any (f : Nat) (l : Int) (t1 u1 t2 u2 x : Nat) (w : World) : Calls Tryd.prog 4 #[.int .u8 (f : Int), .int .i64 l, Nd.edgeV t1 u1, Nd.edgeV t2 u2, .int .u16 (x : Int)] w (RetV w (.bool true)) := by
  obtain ⟨w0, hw0, hb, d0, d1, d2, d3⟩ := BoxE2 w t1 u1 t2 u2
  have HA := Lib.hid (alive_any w0)
  have HM := Lib.hid (fun W => cmake_nil f l t1 u1 t2 u2 W)
  have HV := Lib.hid (fun W => cview_nil f t1 u1 l W)
  have HH := Lib.hid (fun W => cholds_nil f t1 u1 l x W)
  have HCU := Lib.hid (fun W => ccube_nil f l x x W)
  have HSI := Lib.hid (fun W => csize_nil f t1 u1 l W)
  have HR := Lib.hid (fun W => cright_nil f t1 u1 l W)
  have HD : Hid (∀ w1, Below w0.heap.size w0 w1 → w1.cell? ⟨w.heap.size, 0, none⟩ = some (.int .u8 (t1 : Int)) ∧ w1.cell? ⟨w.heap.size, 1, none⟩ = some (.int .u32 (u1 : Int)) ∧
    w1.cell? ⟨w.heap.size + 1, 0, none⟩ = some (.int .u8 (t2 : Int)) ∧ w1.cell? ⟨w.heap.size + 1, 1, none⟩ = some (.int .u32 (u2 : Int))) := Lib.hid (fun w1 hb1 => ⟨Nd.cell_below d0 hb1, Nd.cell_below d1 hb1, Nd.cell_below d2 hb1, Nd.cell_below d3 hb1⟩)
  have HB := Lib.hid hb
  clear hb
  go_enter Tryd.func4, Tryd.ntmps4
  go_upto_region 1 with fail
  rw [← hw0]
  clear hw0
  go_wp2_with fail
  refine HA.out.mono ?_
  clear d0 d1 d2 d3
  rintro e w1 ⟨rfl, hb1⟩
  obtain ⟨d0, d1, d2, d3⟩ := HD.out w1 hb1
  have HB1 := Lib.hid hb1
  clear hb1 HA
  go_wp2_with fail
  refine (HM.out w1).mono ?_
  clear d0 d1 d2 d3
  rintro e w2 ⟨rfl, hb2⟩
  obtain ⟨w3, hw3⟩ : ∃ W, W = w2.alloc (.cells #[.int .u8 0, .int .u32 0] 25) := ⟨_, rfl⟩
  have hb3 : Below w2.heap.size w2 w3 := by rw [hw3]; exact new_below _ _
  have hg3 : EdgeAt w3 w2.heap.size 0 0 := by rw [hw3]; exact alloc_new _ _
  have HB3 := Lib.hid (Below.step HB1.out (Below.step hb2 hb3))
  have HG3 := Lib.hid hg3
  obtain ⟨d0, d1, d2, d3⟩ := HD.out w3 HB3.out
  clear hb2 hb3 hg3 HM HB1
  go_upto_region 6 with fail
  rw [← hw3]
  clear hw3
  go_wp2_with fail
  refine (HV.out w3).mono ?_
  clear d0 d1 d2 d3
  rintro e w4 ⟨rfl, hb4⟩
  obtain ⟨w5, hw5, hb5, hs5, hg5, hg5'⟩ := Nd.New2 w4 (.cells #[.int .u8 0, .int .u32 0] 25) (.cells #[.int .u8 0, .int .u32 0] 25)
  have hb45 := Below.step hb4 hb5
  have HB5 := Lib.hid (Below.step HB3.out hb45)
  have HG5 := Lib.hid (And.intro (show EdgeAt w5 w2.heap.size 0 0 from Nd.block_below HG3.out hb45) (And.intro (show EdgeAt w5 w4.heap.size 0 0 from hg5) (show EdgeAt w5 (w4.heap.size + 1) 0 0 from hg5')))
  obtain ⟨d0, d1, d2, d3⟩ := HD.out w5 HB5.out
  clear hb4 hb5 hb45 hg5 hg5' hs5 HV HB3 HG3
  go_upto_region 7 with fail
  rw [← hw5]
  clear hw5
  go_wp2_with fail
  refine (HH.out w5).mono ?_
  clear d0 d1 d2 d3
  rintro e w6 ⟨rfl, hb6⟩
  have HB6 := Lib.hid hb6
  clear hb6
  go_wp2_with fail
  refine (HCU.out w6).mono ?_
  rintro e w7 ⟨rfl, hb7⟩
  obtain ⟨w8, hw8⟩ : ∃ W, W = w7.alloc (.cells #[.int .u8 0, .int .u32 0] 25) := ⟨_, rfl⟩
  have hb8 : Below w7.heap.size w7 w8 := by rw [hw8]; exact new_below _ _
  have hg8 : EdgeAt w8 w7.heap.size 0 0 := by rw [hw8]; exact alloc_new _ _
  have hb58 := Below.step HB6.out (Below.step hb7 hb8)
  have HB8 := Lib.hid (Below.step HB5.out hb58)
  have HG8 := Lib.hid (And.intro (show EdgeAt w8 w2.heap.size 0 0 from Nd.block_below HG5.out.1 hb58) (And.intro (show EdgeAt w8 w4.heap.size 0 0 from Nd.block_below HG5.out.2.1 hb58) (And.intro (show EdgeAt w8 (w4.heap.size + 1) 0 0 from Nd.block_below HG5.out.2.2 hb58) hg8)))
  obtain ⟨d0, d1, d2, d3⟩ := HD.out w8 HB8.out
  clear hb7 hb8 hg8 hb58 HH HCU HB5 HG5 HB6
  go_upto_region 9 with fail
  rw [← hw8]
  clear hw8
  go_wp2_with fail
  refine (HSI.out w8).mono ?_
  clear d0 d1 d2 d3
  rintro e w9 ⟨rfl, hb9⟩
  obtain ⟨wa, hwa⟩ : ∃ W, W = w9.alloc (.cells #[.int .u8 0, .int .u32 0] 25) := ⟨_, rfl⟩
  have hba : Below w9.heap.size w9 wa := by rw [hwa]; exact new_below _ _
  have hga : EdgeAt wa w9.heap.size 0 0 := by rw [hwa]; exact alloc_new _ _
  have hb8a := Below.step hb9 hba
  have HBA := Lib.hid (Below.step HB8.out hb8a)
  obtain ⟨d0, d1, d2, d3⟩ := HD.out wa HBA.out
  obtain ⟨e0, e1, -⟩ := EdgeAt.cells (show EdgeAt wa w2.heap.size 0 0 from Nd.block_below HG8.out.1 hb8a)
  obtain ⟨e2, e3, -⟩ := EdgeAt.cells (show EdgeAt wa w4.heap.size 0 0 from Nd.block_below HG8.out.2.1 hb8a)
  obtain ⟨e4, e5, -⟩ := EdgeAt.cells (show EdgeAt wa (w4.heap.size + 1) 0 0 from Nd.block_below HG8.out.2.2.1 hb8a)
  obtain ⟨e6, e7, -⟩ := EdgeAt.cells (show EdgeAt wa w7.heap.size 0 0 from Nd.block_below HG8.out.2.2.2 hb8a)
  obtain ⟨e8, e9, -⟩ := hga.cells
  have hq : ∀ W, (binOp .eql 25 (.agg #[.int .u8 0, .int .u32 0]) (.agg #[.int .u8 0, .int .u32 0])).run Tryd.prog W = .ok (.bool true) W := fun W => Nd.eql24 W 0 0 0 0
  clear hb9 hba hga hb8a HSI HB8 HG8
  go_upto_region 11 with fail
  rw [← hwa]
  clear hwa
  go_wp2_with fail
  refine (HR.out wa).mono ?_
  rintro e wb ⟨rfl, hbb⟩
  go_wp2_with fail
  go_ret
  exact ⟨rfl, Below.step HB.out (Below.step HBA.out hbb)⟩
end Go.Proofs.YtacijileknkpnaaDoor
