/- The chapter's example, and what no store tells; no statement of the seat. -/
import Derived.Test.YtdlcapfplaadoaaDdW
namespace Go.Proofs.Ytdlcapfplaadoaa
open Go.RowKit Sq StoreMath ArenaMath IndexMath MarkMath
set_option maxHeartbeats 4000000
set_option maxRecDepth 100000

def rA : Rec := ⟨1, 1, 1, 0, 0, 0, 1⟩
theorem rA_fits : (⟨2, 5, [], []⟩ : Ab).fits rA = true := by decide
theorem rA_find : (⟨2, 5, [], []⟩ : Ab).find rA = (⟨2, 5, [⟨rA, 0, true⟩], []⟩, 2, 0) := by
  have h := rA_fits
  unfold Ab.find
  simp only [h]
  rfl
theorem rA_again : (⟨2, 5, [⟨rA, 0, true⟩], []⟩ : Ab).find rA = (⟨2, 5, [⟨rA, 0, true⟩], []⟩, 2, 0) := by
  unfold Ab.find
  rw [show idOf [(⟨rA, 0, true⟩ : Slot Rec)] rA = some 2 from by decide]
theorem mk_first : mkB (⟨2, 5, [], []⟩ : Ab) 1 0 0 0 1 = (⟨2, 5, [⟨rA, 0, true⟩], []⟩, (0, 2), 0) := by
  rw [mkB_find (by decide) (by decide) (by decide) (by decide)]
  show (((⟨2, 5, [], []⟩ : Ab).find rA).1, (0, ((⟨2, 5, [], []⟩ : Ab).find rA).2.1), ((⟨2, 5, [], []⟩ : Ab).find rA).2.2) = _
  rw [rA_find]
theorem mk_again : mkB (⟨2, 5, [⟨rA, 0, true⟩], []⟩ : Ab) 1 0 0 0 1 = (⟨2, 5, [⟨rA, 0, true⟩], []⟩, (0, 2), 0) := by
  rw [mkB_find (by decide) (by decide) (by decide) (by decide)]
  show (((⟨2, 5, [⟨rA, 0, true⟩], []⟩ : Ab).find rA).1, (0, ((⟨2, 5, [⟨rA, 0, true⟩], []⟩ : Ab).find rA).2.1), ((⟨2, 5, [⟨rA, 0, true⟩], []⟩ : Ab).find rA).2.2) = _
  rw [rA_again]
theorem alive_any (w : World) : Calls Try.prog 10 #[] w (RetV w (.bool true)) := by
  have HN : Hid (Calls Try.prog 11 #[.int .i64 2, .int .i64 5] w (fun e w' => ∃ g, e = .returned (.tuple #[.pointer (some ⟨g, 0, none⟩), .int .u8 0]) ∧ ∃ C, Sto w' C g ⟨2, 5, [], []⟩ ∧ (∀ k, C k → w.heap.size ≤ k) ∧ Below w.heap.size w w')) := Lib.hid (snew_ok 2 5 w (by decide) (by decide))
  go_enter Try.func10, Try.ntmps10
  go_wp2_with fail
  refine HN.out.mono ?_
  rintro e w2 ⟨g, rfl, C, h2, hC, hb2⟩
  have hm := bmake_any h2 1 0 0 0 1 (by decide) (by decide) (by decide) (by decide)
  rw [mk_first] at hm
  have HM : Hid (Calls Try.prog 20 #[.pointer (some ⟨g, 0, none⟩), .int .i64 1, .agg #[.int .u8 0, .int .u32 0], .agg #[.int .u8 0, .int .u32 1]] w2 (SPost w2 C g ⟨2, 5, [⟨rA, 0, true⟩], []⟩ (.tuple #[.agg #[.int .u8 0, .int .u32 2], .int .u8 0]))) := Lib.hid hm
  have HB2 := Lib.hid (And.intro hb2 (And.intro hb2.size hC))
  clear h2 hC hb2 hm HN
  go_wp2_with fail
  refine HM.out.mono ?_
  rintro e w3 ⟨rfl, C3, h3, hT3, hG3⟩
  obtain ⟨x1, x2, x3⟩ := own_on HB2.out.1 HB2.out.2.1 HB2.out.2.2 hT3 hG3
  obtain ⟨w4, hw4⟩ : ∃ W, W = w3.alloc (.cells #[.int .u8 0, .int .u32 2] 32) := ⟨_, rfl⟩
  have hb4 : Below w3.heap.size w3 w4 := by rw [hw4]; exact new_below _ _
  have hg4 : w4.heap[w3.heap.size]? = some (.cells #[.int .u8 0, .int .u32 2] 32) := by rw [hw4]; exact alloc_new _ _
  have hm := bmake_any (h3.below hb4) 1 0 0 0 1 (by decide) (by decide) (by decide) (by decide)
  rw [mk_again] at hm
  have HM4 : Hid (Calls Try.prog 20 #[.pointer (some ⟨g, 0, none⟩), .int .i64 1, .agg #[.int .u8 0, .int .u32 0], .agg #[.int .u8 0, .int .u32 1]] w4 (SPost w4 C3 g ⟨2, 5, [⟨rA, 0, true⟩], []⟩ (.tuple #[.agg #[.int .u8 0, .int .u32 2], .int .u8 0]))) := Lib.hid hm
  have HB4 := Lib.hid (And.intro (Below.step x1 hb4) (And.intro (Nat.le_trans x2 hb4.size) x3))
  have HH := Lib.hid (fun w5 (ht : Turns C3 w4 w5) => (ht.block w3.heap.size (Nd.block_lt hg4) (fun hc => Nat.lt_irrefl _ (h3.inside _ hc))).trans hg4)
  clear h3 hT3 hG3 x1 x2 x3 hb4 hg4 hm HM HB2
  go_upto_region 5 with fail
  rw [← hw4]
  clear hw4
  go_wp2_with fail
  refine HM4.out.mono ?_
  rintro e w5 ⟨rfl, C5, h5, hT5, hG5⟩
  obtain ⟨x1, x2, x3⟩ := own_on HB4.out.1 HB4.out.2.1 HB4.out.2.2 hT5 hG5
  have hg := HH.out w5 hT5
  obtain ⟨w6, hw6⟩ : ∃ W, W = w5.alloc (.cells #[.int .u8 0, .int .u32 2] 32) := ⟨_, rfl⟩
  have hb6 : Below w5.heap.size w5 w6 := by rw [hw6]; exact new_below _ _
  have hg6 : w6.heap[w5.heap.size]? = some (.cells #[.int .u8 0, .int .u32 2] 32) := by rw [hw6]; exact alloc_new _ _
  have hg' := Nd.block_below hg hb6
  have d0 : w6.cell? ⟨w3.heap.size, 0, none⟩ = some (.int .u8 0) := block_cell hg'
  have d1 : w6.cell? ⟨w3.heap.size, 1, none⟩ = some (.int .u32 2) := block_cell hg'
  have d2 : w6.cell? ⟨w5.heap.size, 0, none⟩ = some (.int .u8 0) := block_cell hg6
  have d3 : w6.cell? ⟨w5.heap.size, 1, none⟩ = some (.int .u32 2) := block_cell hg6
  have hlen : Calls Try.prog 27 #[.pointer (some ⟨g, 0, none⟩)] w6 (RetV w6 (.int .i64 1)) := slen_any (h5.below hb6)
  have hq : ∀ W, (binOp .eql 32 (.agg #[.int .u8 0, .int .u32 2]) (.agg #[.int .u8 0, .int .u32 2])).run Try.prog W = .ok (.bool true) W := fun W => Nd.eql24 W 0 2 0 2
  have HL := Lib.hid hlen
  have HE := Lib.hid (Below.step x1 hb6)
  clear h5 hT5 hG5 x1 x2 x3 hg hg' hg6 hb6 HM4 HB4 HH hlen
  go_upto_region 6 with fail
  rw [← hw6]
  clear hw6
  go_wp2_with fail
  refine HL.out.mono ?_
  rintro e w7 ⟨rfl, hb7⟩
  go_wp2_with fail
  go_ret
  exact ⟨rfl, Below.step HE.out hb7⟩
end Go.Proofs.Ytdlcapfplaadoaa
