/- The document's store: what edges reach; no statement of the seat. -/
import Derived.Test.YtacijileknkpnaaGreatDoorRfX
import Derived.Test.YtacijileknkpnaaGreatDoorRfQ
import Derived.Test.YtacijileknkpnaaGreatDoorMkX
import Derived.Test.YtacijileknkpnaaGreatDoorSqA
import Derived.Deep.LoopGhost
namespace Go.Proofs.YtacijileknkpnaaGreatDoor.Rf
open Go.RowKit Sq StoreMath ArenaMath IndexMath MarkMath
set_option maxHeartbeats 8000000
set_option maxRecDepth 100000

def bls (bs : List Bool) : List Value := bs.map fun b : Bool => Value.bool b
theorem bls_at {bs : List Bool} {k : Nat} {b : Bool} (h : bs[k]? = some b) : (bls bs)[k]? = some (.bool b) := by simp [bls, h]
theorem bls_set (bs : List Bool) (k : Nat) (b : Bool) : bls (bs.set k b) = (bls bs).set k (.bool b) := by simp [bls, List.map_set]
/-- A row of flags of the call's own. -/
def BRow (w W : World) (bo m : Nat) (bs : List Bool) : Prop := bs.length = m ∧ W.ownsRow w.heap.size 4 1 (.slice (some ⟨bo, 0, none⟩) m m) m (bls bs)
section
variable {w W W' : World} {bo m : Nat} {bs : List Bool}
theorem BRow.lt (h : BRow w W bo m bs) : w.heap.size ≤ bo ∧ bo < W.heap.size := World.ownsRow.lt h.2 bo rfl
theorem BRow.below (h : BRow w W bo m bs) (hb : Below W.heap.size W W') : BRow w W' bo m bs := ⟨h.1, row_keep h.2 (fun k hk => hb.block k (World.ownsRow.lt h.2 k hk).2)⟩
theorem BRow.cell (h : BRow w W bo m bs) {k : Nat} {b : Bool} (hk : bs[k]? = some b) : W.cell? ⟨bo, k, none⟩ = some (.bool b) := by
  have hl := (List.getElem?_eq_some_iff.1 hk).1
  have := h.1
  rw [World.ownsRow.cellAt h.2 k (by omega)]
  exact bls_at hk
theorem BRow.frozen (h : BRow w W bo m bs) (k : Nat) : W.frozen? ⟨bo, k, none⟩ = false := World.ownsRow.frozenAt h.2 k
theorem BRow.set (h : BRow w W bo m bs) (k : Nat) : BRow w (W.setCell ⟨bo, k, none⟩ (.bool true)) bo m (bs.set k true) := by
  refine ⟨by rw [List.length_set]; exact h.1, ?_⟩
  rw [bls_set]
  exact (World.ownsRow.stored h.2 k (.bool true)).1
end
section
variable {w : World} {D : Nat → Prop} {g : Nat} {a : Ab} {L : List Nn} {gone : List Nat} {new n room : Nat}
end
end Go.Proofs.YtacijileknkpnaaGreatDoor.Rf
