/- Texts that the proof is built on (QXH); no statement of the seat. -/
import Derived.Test.YtdniokdgghpkbaaGreatDoorPkS17
import Derived.Test.YtdniokdgghpkbaaGreatDoorPkS21
import Derived.Test.YtdniokdgghpkbaaGreatDoorPkS23
import Derived.StillTailTactics
import Derived.Deep.RegionWith
import Derived.Test.YtdniokdgghpkbaaGreatDoorPkS12
import Derived.BigQuiet
import Derived.BigRegion
import Derived.Test.YtdniokdgghpkbaaGreatDoorPkS14
import Derived.Test.YtdniokdgghpkbaaGreatDoorPkS15
import Derived.Deep.RegionHeld3
namespace Go.Proofs.YtdniokdgghpkbaaGreatDoor.FX
open Go.RowKit Sq ArenaMath IndexMath MarkMath
open StoreMath hiding Tr dec_short tx
open StoreMath.FX
set_option maxHeartbeats 4000000
set_option maxRecDepth 100000

def V8 (w : World) (t u : Nat) (W : World) : Prop := W.cell? ⟨w.heap.size, 0, none⟩ = some (.int .u8 (t : Int)) ∧ W.cell? ⟨w.heap.size, 1, none⟩ = some (.int .u32 (u : Int)) ∧
    W.cell? ⟨w.heap.size + 1, 0, none⟩ = some (.int .u8 0) ∧ W.cell? ⟨w.heap.size + 1, 1, none⟩ = some (.int .u32 0) ∧
    W.cell? ⟨w.heap.size + 1 + 1, 0, none⟩ = some (.int .u8 0) ∧ W.cell? ⟨w.heap.size + 1 + 1, 1, none⟩ = some (.int .u32 0) ∧
    (∀ i, W.frozen? ⟨w.heap.size + 1, i, none⟩ = false) ∧ (∀ i, W.frozen? ⟨w.heap.size + 1 + 1, i, none⟩ = false)
theorem V8.below {w W W' : World} {t u : Nat} (h : V8 w t u W) (hlt : w.heap.size + 1 + 1 < W.heap.size) (hb : Below W.heap.size W W') : V8 w t u W' :=
  ⟨Nd.cell_below h.1 hb, Nd.cell_below h.2.1 hb, Nd.cell_below h.2.2.1 hb, Nd.cell_below h.2.2.2.1 hb, Nd.cell_below h.2.2.2.2.1 hb, Nd.cell_below h.2.2.2.2.2.1 hb, fun i => (hb.frozen (by show w.heap.size + 1 < _; omega)).trans (h.2.2.2.2.2.2.1 i), fun i => (hb.frozen hlt).trans (h.2.2.2.2.2.2.2 i)⟩
end Go.Proofs.YtdniokdgghpkbaaGreatDoor.FX
namespace Go.Proofs.YtdniokdgghpkbaaGreatDoor.FX
open Go.RowKit Sq ArenaMath IndexMath MarkMath
open StoreMath hiding Tr dec_short tx
open StoreMath.FX
set_option maxHeartbeats 4000000
set_option maxRecDepth 100000

end Go.Proofs.YtdniokdgghpkbaaGreatDoor.FX
namespace Go.Proofs.YtdniokdgghpkbaaGreatDoor.FX
open Go.RowKit Sq ArenaMath IndexMath MarkMath
open StoreMath hiding Tr dec_short tx
open StoreMath.FX
set_option maxHeartbeats 4000000
set_option maxRecDepth 100000

end Go.Proofs.YtdniokdgghpkbaaGreatDoor.FX
namespace Go.Proofs.YtdniokdgghpkbaaGreatDoor.FX
open Go.RowKit Sq ArenaMath IndexMath MarkMath
open StoreMath hiding Tr dec_short tx
open StoreMath.FX
set_option maxHeartbeats 4000000
set_option maxRecDepth 100000

end Go.Proofs.YtdniokdgghpkbaaGreatDoor.FX
namespace Go.Proofs.YtdniokdgghpkbaaGreatDoor.FX
open Go.RowKit Sq ArenaMath IndexMath MarkMath
open StoreMath hiding Tr dec_short tx
open StoreMath.FX
set_option maxHeartbeats 4000000
set_option maxRecDepth 100000

end Go.Proofs.YtdniokdgghpkbaaGreatDoor.FX
namespace Go.Proofs.YtdniokdgghpkbaaGreatDoor.FX
open Go
section
variable {P : Program} {ops : Array Oper} {md : Region.Mode} {w : World} {n : Nat}

end
end Go.Proofs.YtdniokdgghpkbaaGreatDoor.FX
namespace Go.Proofs.YtdniokdgghpkbaaGreatDoor.FX
open Go.RowKit Sq ArenaMath IndexMath MarkMath
open StoreMath hiding Tr dec_short tx
open StoreMath.FX
set_option maxHeartbeats 4000000
set_option maxRecDepth 100000

end Go.Proofs.YtdniokdgghpkbaaGreatDoor.FX
namespace Go.Proofs.YtdniokdgghpkbaaGreatDoor.FX
open Go.RowKit Sq ArenaMath IndexMath MarkMath
open StoreMath hiding Tr dec_short tx
open StoreMath.FX
set_option maxHeartbeats 4000000
set_option maxRecDepth 100000

end Go.Proofs.YtdniokdgghpkbaaGreatDoor.FX
namespace Go.Proofs.YtdniokdgghpkbaaGreatDoor.FX
open Go.RowKit Sq ArenaMath IndexMath MarkMath
open StoreMath hiding Tr dec_short tx
open StoreMath.FX
set_option maxHeartbeats 4000000
set_option maxRecDepth 100000

end Go.Proofs.YtdniokdgghpkbaaGreatDoor.FX
namespace Go.Proofs.YtdniokdgghpkbaaGreatDoor.FX
open Go.RowKit Sq ArenaMath IndexMath MarkMath
open StoreMath hiding Tr dec_short tx
open StoreMath.FX
set_option maxHeartbeats 4000000
set_option maxRecDepth 100000

end Go.Proofs.YtdniokdgghpkbaaGreatDoor.FX
namespace Go.Proofs.YtdniokdgghpkbaaGreatDoor.FX
open Go.RowKit Sq ArenaMath IndexMath MarkMath
open StoreMath hiding Tr dec_short tx
open StoreMath.FX
set_option maxHeartbeats 4000000
set_option maxRecDepth 100000

end Go.Proofs.YtdniokdgghpkbaaGreatDoor.FX
namespace Go.Proofs.YtdniokdgghpkbaaGreatDoor.FX
open Go.RowKit Sq ArenaMath IndexMath MarkMath
open StoreMath hiding Tr dec_short tx
open StoreMath.FX
set_option maxHeartbeats 4000000
set_option maxRecDepth 100000

end Go.Proofs.YtdniokdgghpkbaaGreatDoor.FX
