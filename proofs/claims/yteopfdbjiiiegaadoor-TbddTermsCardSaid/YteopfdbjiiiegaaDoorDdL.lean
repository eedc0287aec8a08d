/- The chapter's example: the walk; no statement of the seat. -/
import Derived.Test.YteopfdbjiiiegaaDoorDdV
namespace Go.Proofs.YteopfdbjiiiegaaDoor
open Go.RowKit Sq StoreMath ArenaMath IndexMath MarkMath
set_option maxHeartbeats 4000000
set_option maxRecDepth 100000

theorem mk_first : mkB (⟨1, 5, [], []⟩ : Ab) 0 1 1 1 1 = (⟨1, 5, [], []⟩, (1, 1), 0) := mkB_same (by decide) (by decide) (by decide) ⟨rfl, rfl⟩
theorem mk_second : mkB (⟨1, 5, [], []⟩ : Ab) 0 1 1 0 0 = (⟨1, 5, [], []⟩, (0, 1), 0) := mkB_tag (by decide) (by decide) (by decide) (by decide) (by decide)
theorem alive_any (w : World) : Calls Tryd.prog 7 #[] w (RetV w (.bool true)) := by
  have HN : Hid (Calls Tryd.prog 8 #[.int .i64 1, .int .i64 5] w (fun e w' => ∃ g, e = .returned (.tuple #[.pointer (some ⟨g, 0, none⟩), .int .u8 0]) ∧ ∃ C, Sto w' C g ⟨1, 5, [], []⟩ ∧ (∀ k, C k → w.heap.size ≤ k) ∧ Below w.heap.size w w')) := Lib.hid (snew_ok 1 5 w (by decide) (by decide))
  go_enter Tryd.func7, Tryd.ntmps7
  go_wp2_with fail
  refine HN.out.mono ?_
  rintro e w2 ⟨g, rfl, C, h2, hC, hb2⟩
  obtain ⟨w3, hw3⟩ : ∃ W, W = w2.alloc (.cells #[.int .u8 1, .int .u32 1] 32) := ⟨_, rfl⟩
  have hb3 : Below w2.heap.size w2 w3 := by rw [hw3]; exact new_below _ _
  have hg3 : w3.heap[w2.heap.size]? = some (.cells #[.int .u8 1, .int .u32 1] 32) := by rw [hw3]; exact alloc_new _ _
  have h3 := h2.below hb3
  have hm := bmake_any h3 0 1 1 1 1 (by decide) (by decide) (by decide) (by decide)
  rw [mk_first] at hm
  have HM : Hid (Calls Tryd.prog 19 #[.pointer (some ⟨g, 0, none⟩), .int .i64 0, .agg #[.int .u8 1, .int .u32 1], .agg #[.int .u8 1, .int .u32 1]] w3 (SPost w3 C g ⟨1, 5, [], []⟩ (.tuple #[.agg #[.int .u8 1, .int .u32 1], .int .u8 0]))) := Lib.hid hm
  have HB2 := Lib.hid (And.intro (Below.step hb2 hb3) (And.intro (Nat.le_trans hb2.size hb3.size) hC))
  have HNC := Lib.hid (fun hc : C w2.heap.size => Nat.lt_irrefl _ (h2.inside _ hc))
  have HG3 := Lib.hid hg3
  have d0 : w3.cell? ⟨w2.heap.size, 0, none⟩ = some (.int .u8 1) := block_cell hg3
  have d1 : w3.cell? ⟨w2.heap.size, 1, none⟩ = some (.int .u32 1) := block_cell hg3
  clear h2 h3 hC hb2 hb3 hg3 hm HN
  go_upto_region 5 with fail
  rw [← hw3]
  clear hw3
  go_wp2_with fail
  refine HM.out.mono ?_
  clear d0 d1
  rintro e w4 ⟨rfl, C4, h4, hT4, hG4⟩
  obtain ⟨x1, x2, x3⟩ := own_on HB2.out.1 HB2.out.2.1 HB2.out.2.2 hT4 hG4
  have hg4 : w4.heap[w2.heap.size]? = some (.cells #[.int .u8 1, .int .u32 1] 32) := (hT4.block _ (Nd.block_lt HG3.out) HNC.out).trans HG3.out
  have hnc4 : ¬ C4 w2.heap.size := fun hc => by
    rcases hG4 _ hc with h | h
    · exact HNC.out h
    · exact Nat.lt_irrefl _ (Nat.lt_of_lt_of_le (Nd.block_lt HG3.out) h)
  have hnc4' : ¬ C4 w4.heap.size := fun hc => Nat.lt_irrefl _ (h4.inside _ hc)
  obtain ⟨w5, hw5⟩ : ∃ W, W = w4.alloc (.cells #[.int .u8 1, .int .u32 1] 32) := ⟨_, rfl⟩
  have hb5 : Below w4.heap.size w4 w5 := by rw [hw5]; exact new_below _ _
  have hg5 : w5.heap[w4.heap.size]? = some (.cells #[.int .u8 1, .int .u32 1] 32) := by rw [hw5]; exact alloc_new _ _
  have hg5' := Nd.block_below hg4 hb5
  have h5 := h4.below hb5
  have hm := bmake_any h5 0 1 1 0 0 (by decide) (by decide) (by decide) (by decide)
  rw [mk_second] at hm
  have HM5 : Hid (Calls Tryd.prog 19 #[.pointer (some ⟨g, 0, none⟩), .int .i64 0, .agg #[.int .u8 1, .int .u32 1], .agg #[.int .u8 0, .int .u32 0]] w5 (SPost w5 C4 g ⟨1, 5, [], []⟩ (.tuple #[.agg #[.int .u8 0, .int .u32 1], .int .u8 0]))) := Lib.hid hm
  have HB5 := Lib.hid (And.intro (Below.step x1 hb5) (And.intro (Nat.le_trans x2 hb5.size) x3))
  have HNC4 := Lib.hid (And.intro hnc4 hnc4')
  have HG5 := Lib.hid (And.intro hg5' hg5)
  have d0 : w5.cell? ⟨w2.heap.size, 0, none⟩ = some (.int .u8 1) := block_cell hg5'
  have d1 : w5.cell? ⟨w2.heap.size, 1, none⟩ = some (.int .u32 1) := block_cell hg5'
  clear h4 h5 hT4 hG4 hb5 hg5 hg5' hg4 hnc4 hnc4' hm x1 x2 x3 HM HB2 HNC HG3
  go_upto_region 6 with fail
  rw [← hw5]
  clear hw5
  go_wp2_with fail
  refine HM5.out.mono ?_
  clear d0 d1
  rintro e w6 ⟨rfl, C6, h6, hT6, hG6⟩
  obtain ⟨x1, x2, x3⟩ := own_on HB5.out.1 HB5.out.2.1 HB5.out.2.2 hT6 hG6
  have hg6 : w6.heap[w2.heap.size]? = some (.cells #[.int .u8 1, .int .u32 1] 32) := (hT6.block _ (Nd.block_lt HG5.out.1) HNC4.out.1).trans HG5.out.1
  have hg6' : w6.heap[w4.heap.size]? = some (.cells #[.int .u8 1, .int .u32 1] 32) := (hT6.block _ (Nd.block_lt HG5.out.2) HNC4.out.2).trans HG5.out.2
  obtain ⟨w7, hw7⟩ : ∃ W, W = w6.alloc (.cells #[.int .u8 0, .int .u32 1] 32) := ⟨_, rfl⟩
  have hb7 : Below w6.heap.size w6 w7 := by rw [hw7]; exact new_below _ _
  have hg7 : w7.heap[w6.heap.size]? = some (.cells #[.int .u8 0, .int .u32 1] 32) := by rw [hw7]; exact alloc_new _ _
  have hg7' := Nd.block_below hg6 hb7
  have hg7'' := Nd.block_below hg6' hb7
  have d0 : w7.cell? ⟨w2.heap.size, 0, none⟩ = some (.int .u8 1) := block_cell hg7'
  have d1 : w7.cell? ⟨w2.heap.size, 1, none⟩ = some (.int .u32 1) := block_cell hg7'
  have d2 : w7.cell? ⟨w4.heap.size, 0, none⟩ = some (.int .u8 1) := block_cell hg7''
  have d3 : w7.cell? ⟨w4.heap.size, 1, none⟩ = some (.int .u32 1) := block_cell hg7''
  have d4 : w7.cell? ⟨w6.heap.size, 0, none⟩ = some (.int .u8 0) := block_cell hg7
  have d5 : w7.cell? ⟨w6.heap.size, 1, none⟩ = some (.int .u32 1) := block_cell hg7
  have HE := Lib.hid (Below.step x1 hb7)
  have hq1 : ∀ W, (binOp .eql 32 (.agg #[.int .u8 1, .int .u32 1]) (.agg #[.int .u8 1, .int .u32 1])).run Tryd.prog W = .ok (.bool true) W := fun W => Nd.eql24 W 1 1 1 1
  have hq2 : ∀ W, (binOp .eql 32 (.agg #[.int .u8 0, .int .u32 1]) (.agg #[.int .u8 0, .int .u32 1])).run Tryd.prog W = .ok (.bool true) W := fun W => Nd.eql24 W 0 1 0 1
  clear h6 hT6 hG6 hb7 hg7 hg7' hg7'' hg6 hg6' x1 x2 x3 HM5 HB5 HNC4 HG5
  go_upto_region 7 with fail
  rw [← hw7]
  clear hw7
  go_wp2_with fail
  go_ret
  exact ⟨rfl, HE.out⟩
end Go.Proofs.YteopfdbjiiiegaaDoor
