/- The chapter's example: the walk; no statement of the seat. -/
import Derived.Test.YtafkdkppghjjeaaDoorDdV
namespace Go.Proofs.YtafkdkppghjjeaaDoor
open Go.RowKit Sq StoreMath ArenaMath IndexMath MarkMath
set_option maxHeartbeats 4000000
set_option maxRecDepth 100000

def rA : Rec := ⟨4, 1, 1, 0, 1, 0, 1⟩
def rC : Rec := ⟨4, 0, 1, 0, 1, 0, 1⟩
def aA : Ab := ⟨2, 5, [⟨rA, 0, true⟩], []⟩
def aC : Ab := ⟨2, 5, [⟨rA, 0, true⟩, ⟨rC, 0, true⟩], []⟩
theorem rA_fits : (⟨2, 5, [], []⟩ : Ab).fits rA = true := by decide
theorem rC_fits : aA.fits rC = true := by decide
theorem rA_find : (⟨2, 5, [], []⟩ : Ab).find rA = (aA, 2, 0) := by
  have h := rA_fits
  unfold Ab.find
  simp only [h]
  rfl
theorem rC_id : idOf aA.sl rC = none := by decide
theorem rC_find : aA.find rC = (aC, 3, 0) := by
  have h := rC_fits
  have h2 := rC_id
  unfold Ab.find
  rw [h2]
  simp only [h]
  rfl
theorem mk_first : mkB (⟨2, 5, [], []⟩ : Ab) 1 0 1 0 1 = (aA, (0, 2), 0) := by
  rw [mkB_find (by decide) (by decide) (by decide) (by decide)]
  show (((⟨2, 5, [], []⟩ : Ab).find rA).1, (0, ((⟨2, 5, [], []⟩ : Ab).find rA).2.1), ((⟨2, 5, [], []⟩ : Ab).find rA).2.2) = _
  rw [rA_find]
theorem rec_second : recB aA 0 0 2 0 2 = rC := recB_on (r := rA) (by decide)
theorem mk_second : mkB aA 0 0 2 0 2 = (aC, (0, 3), 0) := by
  rw [mkB_find (by decide) (by decide) (by decide) (by decide)]
  show ((aA.find (recB aA 0 0 2 0 2)).1, (0, (aA.find (recB aA 0 0 2 0 2)).2.1), (aA.find (recB aA 0 0 2 0 2)).2.2) = _
  rw [rec_second, rC_find]
theorem alive_any (w : World) : Calls Tryd.prog 7 #[] w (RetV w (.bool true)) := by
  have HN : Hid (Calls Tryd.prog 8 #[.int .i64 2, .int .i64 5] w (fun e w' => ∃ g, e = .returned (.tuple #[.pointer (some ⟨g, 0, none⟩), .int .u8 0]) ∧ ∃ C, Sto w' C g ⟨2, 5, [], []⟩ ∧ (∀ k, C k → w.heap.size ≤ k) ∧ Below w.heap.size w w')) := Lib.hid (snew_ok 2 5 w (by decide) (by decide))
  go_enter Tryd.func7, Tryd.ntmps7
  go_wp2_with fail
  refine HN.out.mono ?_
  rintro e w2 ⟨g, rfl, C, h2, hC, hb2⟩
  obtain ⟨w3, hw3⟩ : ∃ W, W = w2.alloc (.cells #[.int .u8 0, .int .u32 1] 32) := ⟨_, rfl⟩
  have hb3 : Below w2.heap.size w2 w3 := by rw [hw3]; exact new_below _ _
  have hg3 : w3.heap[w2.heap.size]? = some (.cells #[.int .u8 0, .int .u32 1] 32) := by rw [hw3]; exact alloc_new _ _
  have h3 := h2.below hb3
  have hm := bmake_any h3 1 0 1 0 1 (by decide) (by decide) (by decide) (by decide)
  rw [mk_first] at hm
  have HM : Hid (Calls Tryd.prog 19 #[.pointer (some ⟨g, 0, none⟩), .int .i64 1, .agg #[.int .u8 0, .int .u32 1], .agg #[.int .u8 0, .int .u32 1]] w3 (SPost w3 C g aA (.tuple #[.agg #[.int .u8 0, .int .u32 2], .int .u8 0]))) := Lib.hid hm
  have HB2 := Lib.hid (And.intro (Below.step hb2 hb3) (And.intro (Nat.le_trans hb2.size hb3.size) hC))
  have HNC : Hid (¬ C w2.heap.size) := Lib.hid (fun hc => Nat.lt_irrefl _ (h2.inside _ hc))
  have HG3 := Lib.hid hg3
  have d0 : w3.cell? ⟨w2.heap.size, 0, none⟩ = some (.int .u8 0) := block_cell hg3
  have d1 : w3.cell? ⟨w2.heap.size, 1, none⟩ = some (.int .u32 1) := block_cell hg3
  clear h2 h3 hC hb2 hb3 hg3 hm HN
  go_upto_region 5 with fail
  rw [← hw3]
  clear hw3
  go_wp2_with fail
  refine HM.out.mono ?_
  clear d0 d1
  rintro e w4 ⟨rfl, C4, h4, hT4, hG4⟩
  obtain ⟨x1, x2, x3⟩ := own_on HB2.out.1 HB2.out.2.1 HB2.out.2.2 hT4 hG4
  have hg4 : w4.heap[w2.heap.size]? = some (.cells #[.int .u8 0, .int .u32 1] 32) := (hT4.block _ (Nd.block_lt HG3.out) HNC.out).trans HG3.out
  have hnc4 : ¬ C4 w2.heap.size := fun hc => by
    rcases hG4 _ hc with h | h
    · exact HNC.out h
    · exact Nat.lt_irrefl _ (Nat.lt_of_lt_of_le (Nd.block_lt HG3.out) h)
  obtain ⟨w5, hw5⟩ : ∃ W, W = w4.alloc (.cells #[.int .u8 0, .int .u32 2] 32) := ⟨_, rfl⟩
  have hb5 : Below w4.heap.size w4 w5 := by rw [hw5]; exact new_below _ _
  have hg5 : w5.heap[w4.heap.size]? = some (.cells #[.int .u8 0, .int .u32 2] 32) := by rw [hw5]; exact alloc_new _ _
  have hg5' := Nd.block_below hg4 hb5
  have h5 := h4.below hb5
  have hm := bmake_any h5 0 0 2 0 2 (by decide) (by decide) (by decide) (by decide)
  rw [mk_second] at hm
  have HM5 : Hid (Calls Tryd.prog 19 #[.pointer (some ⟨g, 0, none⟩), .int .i64 0, .agg #[.int .u8 0, .int .u32 2], .agg #[.int .u8 0, .int .u32 2]] w5 (SPost w5 C4 g aC (.tuple #[.agg #[.int .u8 0, .int .u32 3], .int .u8 0]))) := Lib.hid hm
  have HB5 := Lib.hid (And.intro (Below.step x1 hb5) (And.intro (Nat.le_trans x2 hb5.size) x3))
  have HNC4 := Lib.hid hnc4
  have HG5 := Lib.hid hg5'
  have d0 : w5.cell? ⟨w2.heap.size, 0, none⟩ = some (.int .u8 0) := block_cell hg5'
  have d1 : w5.cell? ⟨w2.heap.size, 1, none⟩ = some (.int .u32 1) := block_cell hg5'
  have d2 : w5.cell? ⟨w4.heap.size, 0, none⟩ = some (.int .u8 0) := block_cell hg5
  have d3 : w5.cell? ⟨w4.heap.size, 1, none⟩ = some (.int .u32 2) := block_cell hg5
  clear h4 h5 hT4 hG4 hb5 hg5 hg5' hg4 hnc4 hm x1 x2 x3 HM HB2 HNC HG3
  go_upto_region 6 with fail
  rw [← hw5]
  clear hw5
  go_wp2_with fail
  refine HM5.out.mono ?_
  clear d0 d1 d2 d3
  rintro e w6 ⟨rfl, C6, h6, hT6, hG6⟩
  obtain ⟨x1, x2, x3⟩ := own_on HB5.out.1 HB5.out.2.1 HB5.out.2.2 hT6 hG6
  have hg6 : w6.heap[w2.heap.size]? = some (.cells #[.int .u8 0, .int .u32 1] 32) := (hT6.block _ (Nd.block_lt HG5.out) HNC4.out).trans HG5.out
  obtain ⟨w7, hw7⟩ : ∃ W, W = w6.alloc (.cells #[.int .u8 0, .int .u32 3] 32) := ⟨_, rfl⟩
  have hb7 : Below w6.heap.size w6 w7 := by rw [hw7]; exact new_below _ _
  have hg7 : w7.heap[w6.heap.size]? = some (.cells #[.int .u8 0, .int .u32 3] 32) := by rw [hw7]; exact alloc_new _ _
  have hg7' := Nd.block_below hg6 hb7
  have hgt := sget_any (h6.below hb7) (id := 3) (by decide)
  rw [show aC.node 3 = some rC from rfl] at hgt
  have HGT : Hid (Calls Tryd.prog 20 #[.pointer (some ⟨g, 0, none⟩), .int .u32 3] w7 (RetV w7 (gotV (some rC)))) := Lib.hid hgt
  have d2 : w7.cell? ⟨w6.heap.size, 0, none⟩ = some (.int .u8 0) := block_cell hg7
  have d3 : w7.cell? ⟨w6.heap.size, 1, none⟩ = some (.int .u32 3) := block_cell hg7
  have HX7 := Lib.hid (And.intro hg7' (Below.step x1 hb7))
  clear h6 hT6 hG6 hb7 hg7 hg7' hg6 hgt x1 x2 x3 HM5 HB5 HNC4 HG5
  go_upto_region 7 with fail
  rw [← hw7]
  clear hw7
  go_wp2_with fail
  refine HGT.out.mono ?_
  clear d2 d3
  simp only [gotV]
  rintro e w8 ⟨rfl, hb8⟩
  obtain ⟨w9, hw9⟩ : ∃ W, W = w8.alloc (.cells (ra rC) 55) := ⟨_, rfl⟩
  have hb9 : Below w8.heap.size w8 w9 := by rw [hw9]; exact new_below _ _
  have hr9 : Nd.RecAt w8.heap.size rC.form rC.top rC.bot rC.lt rC.la rC.ht rC.ha w9 := by rw [hw9]; exact Nd.RecAt.new (alloc_new _ _)
  have hb79 := Below.step hb8 hb9
  have hg9 := Nd.block_below HX7.out.1 hb79
  have d0 : w9.cell? ⟨w2.heap.size, 0, none⟩ = some (.int .u8 0) := block_cell hg9
  have d1 : w9.cell? ⟨w2.heap.size, 1, none⟩ = some (.int .u32 1) := block_cell hg9
  have HE := Lib.hid (Below.step HX7.out.2 hb79)
  obtain ⟨-, q1, q2, q3, q4, q5, q6⟩ := hr9
  have p1 : w9.cell? ⟨w8.heap.size, 1, none⟩ = some (.int .u8 0) := q1
  have p2 : w9.cell? ⟨w8.heap.size, 2, none⟩ = some (.int .u8 1) := q2
  have p3 : w9.cell? ⟨w8.heap.size, 3, none⟩ = some (.int .u8 0) := q3
  have p4 : w9.cell? ⟨w8.heap.size, 4, none⟩ = some (.int .u32 1) := q4
  have p5 : w9.cell? ⟨w8.heap.size, 5, none⟩ = some (.int .u8 0) := q5
  have p6 : w9.cell? ⟨w8.heap.size, 6, none⟩ = some (.int .u32 1) := q6
  have hq2 : ∀ W, (binOp .eql 32 (.agg #[.int .u8 0, .int .u32 1]) (.agg #[.int .u8 0, .int .u32 1])).run Tryd.prog W = .ok (.bool true) W := fun W => Nd.eql24 W 0 1 0 1
  clear q1 q2 q3 q4 q5 q6 hb8 hb9 hb79 hg9 HGT HX7
  go_upto_region 8 with fail
  rw [← hw9]
  clear hw9
  go_wp2_with fail
  go_ret
  exact ⟨rfl, HE.out⟩
end Go.Proofs.YtafkdkppghjjeaaDoor
