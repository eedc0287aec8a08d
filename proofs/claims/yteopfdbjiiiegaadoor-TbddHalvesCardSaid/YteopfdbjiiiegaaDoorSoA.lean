/- The chapter's example; no statement of the seat. -/
import Derived.Test.YteopfdbjiiiegaaDoorSoN
namespace Go.Proofs.YteopfdbjiiiegaaDoor
open Go.RowKit Sq StoreMath ArenaMath IndexMath
set_option maxHeartbeats 2000000
set_option maxRecDepth 100000

/-- What is the call's own stays so. -/
theorem own_on {B : Nat} {w0 w w' : World} {C C' : Nat → Prop} (hb : Below B w0 w) (hB : B ≤ w.heap.size) (hC : ∀ k, C k → B ≤ k) (hT : Turns C w w') (hG : Grows C w.heap.size C') : Below B w0 w' ∧ B ≤ w'.heap.size ∧ ∀ k, C' k → B ≤ k :=
  ⟨hb.trans (hT.below hC hB), Nat.le_trans hB hT.size, fun k hk => (hG k hk).elim (hC k) (fun h => by omega)⟩
def r1 : Rec := ⟨1, 0, 0, 0, 0, 0, 1⟩
theorem r1_ok : r1.Ok := ⟨by decide, by decide, by decide, by decide, by decide, by decide, by decide⟩
theorem r1_fits : (⟨2, 5, [], []⟩ : Ab).fits r1 = true := by decide
theorem r1_find : (⟨2, 5, [], []⟩ : Ab).find r1 = (⟨2, 5, [⟨r1, 0, true⟩], []⟩, 2, 0) := by
  have h := r1_fits
  unfold Ab.find
  simp only [h]
  rfl
theorem r1_again : (⟨2, 5, [⟨r1, 0, true⟩], []⟩ : Ab).find r1 = (⟨2, 5, [⟨r1, 0, true⟩], []⟩, 2, 0) := by
  unfold Ab.find
  rw [show idOf [(⟨r1, 0, true⟩ : Slot Rec)] r1 = some 2 from by decide]
abbrev l1 : Value := .agg #[.int .u8 1, .int .u8 0, .int .u8 0, .int .u8 0, .int .u32 0, .int .u8 0, .int .u32 1]

end Go.Proofs.YteopfdbjiiiegaaDoor
