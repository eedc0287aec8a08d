/- The chapter's example; no statement of the seat. -/
import Derived.Test.YtbndmpklbdllkaaDdW
namespace Go.Proofs.Ytbndmpklbdllkaa
open Go.RowKit Sq StoreMath ArenaMath IndexMath MarkMath
set_option maxHeartbeats 4000000
set_option maxRecDepth 100000

theorem mk_first : mkB (⟨2, 5, [], []⟩ : Ab) 1 0 1 0 0 = (⟨2, 5, [], []⟩, (0, 1), 0) := mkB_same (by decide) (by decide) (by decide) rfl
theorem alive_any (w : World) : Calls Try.prog 10 #[] w (RetV w (.bool true)) := by
  have HN : Hid (Calls Try.prog 11 #[.int .i64 2, .int .i64 5] w (fun e w' => ∃ g, e = .returned (.tuple #[.pointer (some ⟨g, 0, none⟩), .int .u8 0]) ∧ ∃ C, Sto w' C g ⟨2, 5, [], []⟩ ∧ (∀ k, C k → w.heap.size ≤ k) ∧ Below w.heap.size w w')) := Lib.hid (snew_ok 2 5 w (by decide) (by decide))
  go_enter Try.func10, Try.ntmps10
  go_wp2_with fail
  refine HN.out.mono ?_
  rintro e w2 ⟨g, rfl, C, h2, hC, hb2⟩
  have hm := bmake_any h2 1 0 1 0 0 (by decide) (by decide) (by decide) (by decide)
  rw [mk_first] at hm
  have HM : Hid (Calls Try.prog 20 #[.pointer (some ⟨g, 0, none⟩), .int .i64 1, .agg #[.int .u8 0, .int .u32 1], .agg #[.int .u8 0, .int .u32 0]] w2 (SPost w2 C g ⟨2, 5, [], []⟩ (.tuple #[.agg #[.int .u8 0, .int .u32 1], .int .u8 0]))) := Lib.hid hm
  have HB2 := Lib.hid (And.intro hb2 (And.intro hb2.size hC))
  clear h2 hC hb2 hm HN
  go_wp2_with fail
  refine HM.out.mono ?_
  rintro e w3 ⟨rfl, C3, h3, hT3, hG3⟩
  obtain ⟨x1, x2, x3⟩ := own_on HB2.out.1 HB2.out.2.1 HB2.out.2.2 hT3 hG3
  obtain ⟨w4, hw4⟩ : ∃ W, W = w3.alloc (.cells #[.int .u8 0, .int .u32 1] 32) := ⟨_, rfl⟩
  have hb4 : Below w3.heap.size w3 w4 := by rw [hw4]; exact new_below _ _
  have hg4 : w4.heap[w3.heap.size]? = some (.cells #[.int .u8 0, .int .u32 1] 32) := by rw [hw4]; exact alloc_new _ _
  have d0 : w4.cell? ⟨w3.heap.size, 0, none⟩ = some (.int .u8 0) := block_cell hg4
  have d1 : w4.cell? ⟨w3.heap.size, 1, none⟩ = some (.int .u32 1) := block_cell hg4
  have hlen : Calls Try.prog 27 #[.pointer (some ⟨g, 0, none⟩)] w4 (RetV w4 (.int .i64 0)) := slen_any (h3.below hb4)
  have hq : ∀ W, (binOp .eql 32 (.agg #[.int .u8 0, .int .u32 1]) (.agg #[.int .u8 0, .int .u32 1])).run Try.prog W = .ok (.bool true) W := fun W => Nd.eql24 W 0 1 0 1
  have HL := Lib.hid hlen
  have HE := Lib.hid (Below.step x1 hb4)
  clear h3 hT3 hG3 x1 x2 x3 hg4 hb4 HM HB2 hlen
  go_upto_region 5 with fail
  rw [← hw4]
  clear hw4
  go_wp2_with fail
  refine HL.out.mono ?_
  rintro e w7 ⟨rfl, hb7⟩
  go_wp2_with fail
  go_ret
  exact ⟨rfl, Below.step HE.out hb7⟩
end Go.Proofs.Ytbndmpklbdllkaa
