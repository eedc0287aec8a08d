/- The chapter's example; no statement of the seat. -/
import Derived.Test.YtheeohklceieeaaSoN
namespace Go.Proofs.Ytheeohklceieeaa
open Go.RowKit Sq StoreMath ArenaMath IndexMath
set_option maxHeartbeats 2000000
set_option maxRecDepth 100000

/-- What is the call's own stays so. -/
theorem own_on {B : Nat} {w0 w w' : World} {C C' : Nat → Prop} (hb : Below B w0 w) (hB : B ≤ w.heap.size) (hC : ∀ k, C k → B ≤ k) (hT : Turns C w w') (hG : Grows C w.heap.size C') : Below B w0 w' ∧ B ≤ w'.heap.size ∧ ∀ k, C' k → B ≤ k :=
  ⟨hb.trans (hT.below hC hB), Nat.le_trans hB hT.size, fun k hk => (hG k hk).elim (hC k) (fun h => by omega)⟩
def r1 : Rec := ⟨1, 0, 0, 0, 0, 0, 1⟩
theorem r1_ok : r1.Ok := ⟨by decide, by decide, by decide, by decide, by decide, by decide, by decide⟩
theorem r1_fits : (⟨2, 5, [], []⟩ : Ab).fits r1 = true := by decide
theorem r1_find : (⟨2, 5, [], []⟩ : Ab).find r1 = (⟨2, 5, [⟨r1, 0, true⟩], []⟩, 2, 0) := by
  have h := r1_fits
  unfold Ab.find
  simp only [h]
  rfl
theorem r1_again : (⟨2, 5, [⟨r1, 0, true⟩], []⟩ : Ab).find r1 = (⟨2, 5, [⟨r1, 0, true⟩], []⟩, 2, 0) := by
  unfold Ab.find
  rw [show idOf [(⟨r1, 0, true⟩ : Slot Rec)] r1 = some 2 from by decide]
abbrev l1 : Value := .agg #[.int .u8 1, .int .u8 0, .int .u8 0, .int .u8 0, .int .u32 0, .int .u8 0, .int .u32 1]

theorem alive_any (w : World) : Calls Try.prog 4 #[] w (RetV w (.bool true)) := by
  have HN : Hid (Calls Try.prog 5 #[.int .i64 2, .int .i64 5] w (fun e w' => ∃ g, e = .returned (.tuple #[.pointer (some ⟨g, 0, none⟩), .int .u8 0]) ∧ ∃ C, Sto w' C g ⟨2, 5, [], []⟩ ∧ (∀ k, C k → w.heap.size ≤ k) ∧ Below w.heap.size w w')) := Lib.hid (snew_ok 2 5 w (by decide) (by decide))
  go_enter Try.func4, Try.ntmps4
  go_wp2_with fail
  refine HN.out.mono ?_
  rintro e w2 ⟨g, rfl, C, h2, hC, hb2⟩
  have HB2 := Lib.hid (And.intro hb2 (And.intro hb2.size hC))
  obtain ⟨w3, hw3⟩ : ∃ W, W = w2.alloc (.cells #[.int .u8 1, .int .u8 0, .int .u8 0, .int .u8 0, .int .u32 0, .int .u8 0, .int .u32 1] 39) := ⟨_, rfl⟩
  have hb3 : Below w2.heap.size w2 w3 := by rw [hw3]; exact new_below _ _
  have hr3 : Nd.RecAt w2.heap.size 1 0 0 0 0 0 1 w3 := by rw [hw3]; exact Nd.RecAt.new (alloc_new _ _)
  have hlt : w2.heap.size < w3.heap.size := by rw [hw3]; show _ < (w2.heap.push _).size; simp
  have hf := find_any (h2.below hb3) r1_ok
  rw [r1_find] at hf
  have HF : Hid (Calls Try.prog 9 #[.pointer (some ⟨g, 0, none⟩), l1] w3 (SPost w3 C g ⟨2, 5, [⟨r1, 0, true⟩], []⟩ (.tuple #[.int .u32 2, .int .u8 0]))) := Lib.hid hf
  have HR3 := Lib.hid hr3
  have HH : Hid (¬ C w2.heap.size ∧ w2.heap.size < w3.heap.size ∧ Below w2.heap.size w2 w3) := Lib.hid ⟨fun hk => Nat.lt_irrefl _ (h2.inside _ hk), hlt, hb3⟩
  obtain ⟨d0, d1, d2, d3, d4, d5, d6⟩ := hr3
  simp only [Int.natCast_zero] at d1 d2 d3 d4 d5
  change _ = some (Value.int .u8 1) at d0
  change _ = some (Value.int .u32 1) at d6
  clear h2 hC hb2 hb3 hf HN hlt
  go_upto_region 5 with fail
  rw [← hw3]
  clear hw3
  go_wp2_with fail
  refine HF.out.mono ?_
  clear d0 d1 d2 d3 d4 d5 d6
  rintro e w4 ⟨rfl, C4, h4, hT4, hG4⟩
  obtain ⟨d0, d1, d2, d3, d4, d5, d6⟩ : Nd.RecAt w2.heap.size r1.form r1.top r1.bot r1.lt r1.la r1.ht r1.ha w4 := Ar.rec_keep HR3.out (hT4.block _ HH.out.2.1 HH.out.1)
  change _ = some (Value.int .u8 1) at d0
  change _ = some (Value.int .u8 0) at d1 d2 d3 d5
  change _ = some (Value.int .u32 0) at d4
  change _ = some (Value.int .u32 1) at d6
  have hf := find_any h4 r1_ok
  rw [r1_again] at hf
  have HF4 : Hid (Calls Try.prog 9 #[.pointer (some ⟨g, 0, none⟩), l1] w4 (SPost w4 C4 g ⟨2, 5, [⟨r1, 0, true⟩], []⟩ (.tuple #[.int .u32 2, .int .u8 0]))) := Lib.hid hf
  have HB4 : Hid (Below w.heap.size w w4 ∧ w.heap.size ≤ w4.heap.size ∧ ∀ k, C4 k → w.heap.size ≤ k) := Lib.hid (own_on (w := w3) (HB2.out.1.trans (HH.out.2.2.mono HB2.out.2.1)) (Nat.le_trans HB2.out.2.1 HH.out.2.2.size) HB2.out.2.2 hT4 hG4)
  clear hT4 hG4 h4 HF hf
  go_wp2_with fail
  refine HF4.out.mono ?_
  clear d0 d1 d2 d3 d4 d5 d6
  rintro e w5 ⟨rfl, C5, h5, hT5, hG5⟩
  have HB5 := Lib.hid (own_on HB4.out.1 HB4.out.2.1 HB4.out.2.2 hT5 hG5)
  have HL : Hid (Calls Try.prog 7 #[.pointer (some ⟨g, 0, none⟩)] w5 (RetV w5 (.int .i64 1))) := Lib.hid (slen_any h5)
  clear h5 hT5 hG5
  go_wp2_with fail
  refine HL.out.mono ?_
  rintro e w6 ⟨rfl, hb6⟩
  go_wp2_with fail
  go_ret
  exact ⟨rfl, HB5.out.1.trans (hb6.mono HB5.out.2.1)⟩
end Go.Proofs.Ytheeohklceieeaa
