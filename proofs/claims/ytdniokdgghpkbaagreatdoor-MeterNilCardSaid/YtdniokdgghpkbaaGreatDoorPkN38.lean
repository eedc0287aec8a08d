/- Texts that the proof is built on (QZH, QCH, QXH, QTH, McN, MtS); no statement of the seat. -/
import Derived.Test.YtdniokdgghpkbaaGreatDoorPkN18
import Derived.Test.YtdniokdgghpkbaaGreatDoorPkN20
import Derived.Test.YtdniokdgghpkbaaGreatDoorPkN25
import Derived.BigRegion
import Derived.Test.YtdniokdgghpkbaaGreatDoorPkN21
import Derived.StillTailTactics
import Derived.Deep.RegionWith
import Derived.Test.YtdniokdgghpkbaaGreatDoorPkN13
import Derived.BigQuiet
import Derived.Test.YtdniokdgghpkbaaGreatDoorPkN16
import Derived.Deep.RegionHeld3
import Derived.Test.YtdniokdgghpkbaaGreatDoorPkN22
import Derived.Test.YtdniokdgghpkbaaGreatDoorPkN23
import Derived.Test.YtdniokdgghpkbaaGreatDoorPkN34
import Derived.Test.YtdniokdgghpkbaaGreatDoorPkN37
import Derived.Test.YtdniokdgghpkbaaGreatDoorPkN24
import Derived.Test.YtdniokdgghpkbaaGreatDoorPkN19
import Derived.Laws.Rows
import Derived.RegionTactic
import Derived.Test.YtdniokdgghpkbaaGreatDoorPkN27
import Derived.Test.YtdniokdgghpkbaaGreatDoorPkN32
namespace Go.Proofs.YtdniokdgghpkbaaGreatDoor.FZ
open Go.RowKit Sq ArenaMath IndexMath MarkMath
open StoreMath hiding Tr dec_short tx
open StoreMath.FZ
set_option maxHeartbeats 4000000
set_option maxRecDepth 100000

def V8 (w : World) (t u : Nat) (W : World) : Prop := W.cell? ⟨w.heap.size, 0, none⟩ = some (.int .u8 (t : Int)) ∧ W.cell? ⟨w.heap.size, 1, none⟩ = some (.int .u32 (u : Int)) ∧
    W.cell? ⟨w.heap.size + 1, 0, none⟩ = some (.int .u8 0) ∧ W.cell? ⟨w.heap.size + 1, 1, none⟩ = some (.int .u32 0) ∧
    W.cell? ⟨w.heap.size + 1 + 1, 0, none⟩ = some (.int .u8 0) ∧ W.cell? ⟨w.heap.size + 1 + 1, 1, none⟩ = some (.int .u32 0) ∧
    (∀ i, W.frozen? ⟨w.heap.size + 1, i, none⟩ = false) ∧ (∀ i, W.frozen? ⟨w.heap.size + 1 + 1, i, none⟩ = false)
theorem V8.below {w W W' : World} {t u : Nat} (h : V8 w t u W) (hlt : w.heap.size + 1 + 1 < W.heap.size) (hb : Below W.heap.size W W') : V8 w t u W' :=
  ⟨Nd.cell_below h.1 hb, Nd.cell_below h.2.1 hb, Nd.cell_below h.2.2.1 hb, Nd.cell_below h.2.2.2.1 hb, Nd.cell_below h.2.2.2.2.1 hb, Nd.cell_below h.2.2.2.2.2.1 hb, fun i => (hb.frozen (by show w.heap.size + 1 < _; omega)).trans (h.2.2.2.2.2.2.1 i), fun i => (hb.frozen hlt).trans (h.2.2.2.2.2.2.2 i)⟩
end Go.Proofs.YtdniokdgghpkbaaGreatDoor.FZ
namespace Go.Proofs.YtdniokdgghpkbaaGreatDoor.FZ
open Go.RowKit Sq ArenaMath IndexMath MarkMath
open StoreMath hiding Tr dec_short tx
open StoreMath.FZ
set_option maxHeartbeats 4000000
set_option maxRecDepth 100000

end Go.Proofs.YtdniokdgghpkbaaGreatDoor.FZ
namespace Go.Proofs.YtdniokdgghpkbaaGreatDoor.FZ
open Go.RowKit Sq ArenaMath IndexMath MarkMath
open StoreMath hiding Tr dec_short tx
open StoreMath.FZ
set_option maxHeartbeats 4000000
set_option maxRecDepth 100000

end Go.Proofs.YtdniokdgghpkbaaGreatDoor.FZ
namespace Go.Proofs.YtdniokdgghpkbaaGreatDoor.FZ
open Go.RowKit Sq ArenaMath IndexMath MarkMath
open StoreMath hiding Tr dec_short tx
open StoreMath.FZ
set_option maxHeartbeats 4000000
set_option maxRecDepth 100000

end Go.Proofs.YtdniokdgghpkbaaGreatDoor.FZ
namespace Go.Proofs.YtdniokdgghpkbaaGreatDoor.FZ
open Go.RowKit Sq ArenaMath IndexMath MarkMath
open StoreMath hiding Tr dec_short tx
open StoreMath.FZ
set_option maxHeartbeats 4000000
set_option maxRecDepth 100000

end Go.Proofs.YtdniokdgghpkbaaGreatDoor.FZ
namespace Go.Proofs.YtdniokdgghpkbaaGreatDoor.FZ
open Go.RowKit Sq ArenaMath IndexMath MarkMath
open StoreMath hiding Tr dec_short tx
open StoreMath.FZ
set_option maxHeartbeats 4000000
set_option maxRecDepth 100000

end Go.Proofs.YtdniokdgghpkbaaGreatDoor.FZ
namespace Go.Proofs.YtdniokdgghpkbaaGreatDoor.FZ
open Go.RowKit Sq ArenaMath IndexMath MarkMath
open StoreMath hiding Tr dec_short tx
open StoreMath.FZ
set_option maxHeartbeats 4000000
set_option maxRecDepth 100000

end Go.Proofs.YtdniokdgghpkbaaGreatDoor.FZ
namespace Go.Proofs.YtdniokdgghpkbaaGreatDoor.FZ
open Go.RowKit Sq ArenaMath IndexMath MarkMath
open StoreMath hiding Tr dec_short tx
open StoreMath.FZ
set_option maxHeartbeats 4000000
set_option maxRecDepth 100000

end Go.Proofs.YtdniokdgghpkbaaGreatDoor.FZ
namespace Go.Proofs.YtdniokdgghpkbaaGreatDoor.FZ
open Go.RowKit Sq ArenaMath IndexMath MarkMath
open StoreMath hiding Tr dec_short tx
open StoreMath.FZ
set_option maxHeartbeats 4000000
set_option maxRecDepth 100000

end Go.Proofs.YtdniokdgghpkbaaGreatDoor.FZ
namespace Go.Proofs.YtdniokdgghpkbaaGreatDoor.FC
open Go.RowKit Sq ArenaMath IndexMath MarkMath
open StoreMath hiding Tr dec_short ne_hi tx
open StoreMath.FC
set_option maxHeartbeats 4000000
set_option maxRecDepth 100000

def V8 (w : World) (t u : Nat) (W : World) : Prop := W.cell? ⟨w.heap.size, 0, none⟩ = some (.int .u8 (t : Int)) ∧ W.cell? ⟨w.heap.size, 1, none⟩ = some (.int .u32 (u : Int)) ∧
    W.cell? ⟨w.heap.size + 1, 0, none⟩ = some (.int .u8 0) ∧ W.cell? ⟨w.heap.size + 1, 1, none⟩ = some (.int .u32 0) ∧
    W.cell? ⟨w.heap.size + 1 + 1, 0, none⟩ = some (.int .u8 0) ∧ W.cell? ⟨w.heap.size + 1 + 1, 1, none⟩ = some (.int .u32 0) ∧
    (∀ i, W.frozen? ⟨w.heap.size + 1, i, none⟩ = false) ∧ (∀ i, W.frozen? ⟨w.heap.size + 1 + 1, i, none⟩ = false)
theorem V8.below {w W W' : World} {t u : Nat} (h : V8 w t u W) (hlt : w.heap.size + 1 + 1 < W.heap.size) (hb : Below W.heap.size W W') : V8 w t u W' :=
  ⟨Nd.cell_below h.1 hb, Nd.cell_below h.2.1 hb, Nd.cell_below h.2.2.1 hb, Nd.cell_below h.2.2.2.1 hb, Nd.cell_below h.2.2.2.2.1 hb, Nd.cell_below h.2.2.2.2.2.1 hb, fun i => (hb.frozen (by show w.heap.size + 1 < _; omega)).trans (h.2.2.2.2.2.2.1 i), fun i => (hb.frozen hlt).trans (h.2.2.2.2.2.2.2 i)⟩
end Go.Proofs.YtdniokdgghpkbaaGreatDoor.FC
namespace Go.Proofs.YtdniokdgghpkbaaGreatDoor.FC
open Go.RowKit Sq ArenaMath IndexMath MarkMath
open StoreMath hiding Tr dec_short ne_hi tx
open StoreMath.FC
set_option maxHeartbeats 4000000
set_option maxRecDepth 100000

end Go.Proofs.YtdniokdgghpkbaaGreatDoor.FC
namespace Go.Proofs.YtdniokdgghpkbaaGreatDoor.FC
open Go.RowKit Sq ArenaMath IndexMath MarkMath
open StoreMath hiding Tr dec_short ne_hi tx
open StoreMath.FC
set_option maxHeartbeats 4000000
set_option maxRecDepth 100000

end Go.Proofs.YtdniokdgghpkbaaGreatDoor.FC
namespace Go.Proofs.YtdniokdgghpkbaaGreatDoor.FC
open Go.RowKit Sq ArenaMath IndexMath MarkMath
open StoreMath hiding Tr dec_short ne_hi tx
open StoreMath.FC
set_option maxHeartbeats 4000000
set_option maxRecDepth 100000

end Go.Proofs.YtdniokdgghpkbaaGreatDoor.FC
namespace Go.Proofs.YtdniokdgghpkbaaGreatDoor.FC
open Go.RowKit Sq ArenaMath IndexMath MarkMath
open StoreMath hiding Tr dec_short ne_hi tx
open StoreMath.FC
set_option maxHeartbeats 4000000
set_option maxRecDepth 100000

end Go.Proofs.YtdniokdgghpkbaaGreatDoor.FC
namespace Go.Proofs.YtdniokdgghpkbaaGreatDoor.FC
open Go
section
variable {P : Program} {ops : Array Oper} {md : Region.Mode} {w : World} {n : Nat}

end
end Go.Proofs.YtdniokdgghpkbaaGreatDoor.FC
namespace Go.Proofs.YtdniokdgghpkbaaGreatDoor.FC
open Go.RowKit Sq ArenaMath IndexMath MarkMath
open StoreMath hiding Tr dec_short ne_hi tx
open StoreMath.FC
set_option maxHeartbeats 4000000
set_option maxRecDepth 100000

end Go.Proofs.YtdniokdgghpkbaaGreatDoor.FC
namespace Go.Proofs.YtdniokdgghpkbaaGreatDoor.FC
open Go.RowKit Sq ArenaMath IndexMath MarkMath
open StoreMath hiding Tr dec_short ne_hi tx
open StoreMath.FC
set_option maxHeartbeats 4000000
set_option maxRecDepth 100000

end Go.Proofs.YtdniokdgghpkbaaGreatDoor.FC
namespace Go.Proofs.YtdniokdgghpkbaaGreatDoor.FC
open Go.RowKit Sq ArenaMath IndexMath MarkMath
open StoreMath hiding Tr dec_short ne_hi tx
open StoreMath.FC
set_option maxHeartbeats 4000000
set_option maxRecDepth 100000

end Go.Proofs.YtdniokdgghpkbaaGreatDoor.FC
namespace Go.Proofs.YtdniokdgghpkbaaGreatDoor.FC
open Go.RowKit Sq ArenaMath IndexMath MarkMath
open StoreMath hiding Tr dec_short ne_hi tx
open StoreMath.FC
set_option maxHeartbeats 4000000
set_option maxRecDepth 100000

end Go.Proofs.YtdniokdgghpkbaaGreatDoor.FC
namespace Go.Proofs.YtdniokdgghpkbaaGreatDoor.FC
open Go.RowKit Sq ArenaMath IndexMath MarkMath
open StoreMath hiding Tr dec_short ne_hi tx
open StoreMath.FC
set_option maxHeartbeats 4000000
set_option maxRecDepth 100000

end Go.Proofs.YtdniokdgghpkbaaGreatDoor.FC
namespace Go.Proofs.YtdniokdgghpkbaaGreatDoor.FC
open Go.RowKit Sq ArenaMath IndexMath MarkMath
open StoreMath hiding Tr dec_short ne_hi tx
open StoreMath.FC
set_option maxHeartbeats 4000000
set_option maxRecDepth 100000

end Go.Proofs.YtdniokdgghpkbaaGreatDoor.FC
namespace Go.Proofs.YtdniokdgghpkbaaGreatDoor.FX
open Go.RowKit Sq ArenaMath IndexMath MarkMath
open StoreMath hiding Tr dec_short tx
open StoreMath.FX
set_option maxHeartbeats 4000000
set_option maxRecDepth 100000

def V8 (w : World) (t u : Nat) (W : World) : Prop := W.cell? ⟨w.heap.size, 0, none⟩ = some (.int .u8 (t : Int)) ∧ W.cell? ⟨w.heap.size, 1, none⟩ = some (.int .u32 (u : Int)) ∧
    W.cell? ⟨w.heap.size + 1, 0, none⟩ = some (.int .u8 0) ∧ W.cell? ⟨w.heap.size + 1, 1, none⟩ = some (.int .u32 0) ∧
    W.cell? ⟨w.heap.size + 1 + 1, 0, none⟩ = some (.int .u8 0) ∧ W.cell? ⟨w.heap.size + 1 + 1, 1, none⟩ = some (.int .u32 0) ∧
    (∀ i, W.frozen? ⟨w.heap.size + 1, i, none⟩ = false) ∧ (∀ i, W.frozen? ⟨w.heap.size + 1 + 1, i, none⟩ = false)
theorem V8.below {w W W' : World} {t u : Nat} (h : V8 w t u W) (hlt : w.heap.size + 1 + 1 < W.heap.size) (hb : Below W.heap.size W W') : V8 w t u W' :=
  ⟨Nd.cell_below h.1 hb, Nd.cell_below h.2.1 hb, Nd.cell_below h.2.2.1 hb, Nd.cell_below h.2.2.2.1 hb, Nd.cell_below h.2.2.2.2.1 hb, Nd.cell_below h.2.2.2.2.2.1 hb, fun i => (hb.frozen (by show w.heap.size + 1 < _; omega)).trans (h.2.2.2.2.2.2.1 i), fun i => (hb.frozen hlt).trans (h.2.2.2.2.2.2.2 i)⟩
end Go.Proofs.YtdniokdgghpkbaaGreatDoor.FX
namespace Go.Proofs.YtdniokdgghpkbaaGreatDoor.FX
open Go.RowKit Sq ArenaMath IndexMath MarkMath
open StoreMath hiding Tr dec_short tx
open StoreMath.FX
set_option maxHeartbeats 4000000
set_option maxRecDepth 100000

end Go.Proofs.YtdniokdgghpkbaaGreatDoor.FX
namespace Go.Proofs.YtdniokdgghpkbaaGreatDoor.FX
open Go.RowKit Sq ArenaMath IndexMath MarkMath
open StoreMath hiding Tr dec_short tx
open StoreMath.FX
set_option maxHeartbeats 4000000
set_option maxRecDepth 100000

end Go.Proofs.YtdniokdgghpkbaaGreatDoor.FX
namespace Go.Proofs.YtdniokdgghpkbaaGreatDoor.FX
open Go.RowKit Sq ArenaMath IndexMath MarkMath
open StoreMath hiding Tr dec_short tx
open StoreMath.FX
set_option maxHeartbeats 4000000
set_option maxRecDepth 100000

end Go.Proofs.YtdniokdgghpkbaaGreatDoor.FX
namespace Go.Proofs.YtdniokdgghpkbaaGreatDoor.FX
open Go.RowKit Sq ArenaMath IndexMath MarkMath
open StoreMath hiding Tr dec_short tx
open StoreMath.FX
set_option maxHeartbeats 4000000
set_option maxRecDepth 100000

end Go.Proofs.YtdniokdgghpkbaaGreatDoor.FX
namespace Go.Proofs.YtdniokdgghpkbaaGreatDoor.FX
open Go
section
variable {P : Program} {ops : Array Oper} {md : Region.Mode} {w : World} {n : Nat}

end
end Go.Proofs.YtdniokdgghpkbaaGreatDoor.FX
namespace Go.Proofs.YtdniokdgghpkbaaGreatDoor.FX
open Go.RowKit Sq ArenaMath IndexMath MarkMath
open StoreMath hiding Tr dec_short tx
open StoreMath.FX
set_option maxHeartbeats 4000000
set_option maxRecDepth 100000

end Go.Proofs.YtdniokdgghpkbaaGreatDoor.FX
namespace Go.Proofs.YtdniokdgghpkbaaGreatDoor.FX
open Go.RowKit Sq ArenaMath IndexMath MarkMath
open StoreMath hiding Tr dec_short tx
open StoreMath.FX
set_option maxHeartbeats 4000000
set_option maxRecDepth 100000

end Go.Proofs.YtdniokdgghpkbaaGreatDoor.FX
namespace Go.Proofs.YtdniokdgghpkbaaGreatDoor.FX
open Go.RowKit Sq ArenaMath IndexMath MarkMath
open StoreMath hiding Tr dec_short tx
open StoreMath.FX
set_option maxHeartbeats 4000000
set_option maxRecDepth 100000

end Go.Proofs.YtdniokdgghpkbaaGreatDoor.FX
namespace Go.Proofs.YtdniokdgghpkbaaGreatDoor.FX
open Go.RowKit Sq ArenaMath IndexMath MarkMath
open StoreMath hiding Tr dec_short tx
open StoreMath.FX
set_option maxHeartbeats 4000000
set_option maxRecDepth 100000

end Go.Proofs.YtdniokdgghpkbaaGreatDoor.FX
namespace Go.Proofs.YtdniokdgghpkbaaGreatDoor.FX
open Go.RowKit Sq ArenaMath IndexMath MarkMath
open StoreMath hiding Tr dec_short tx
open StoreMath.FX
set_option maxHeartbeats 4000000
set_option maxRecDepth 100000

end Go.Proofs.YtdniokdgghpkbaaGreatDoor.FX
namespace Go.Proofs.YtdniokdgghpkbaaGreatDoor.FX
open Go.RowKit Sq ArenaMath IndexMath MarkMath
open StoreMath hiding Tr dec_short tx
open StoreMath.FX
set_option maxHeartbeats 4000000
set_option maxRecDepth 100000

end Go.Proofs.YtdniokdgghpkbaaGreatDoor.FX
namespace Go.Proofs.YtdniokdgghpkbaaGreatDoor.FT
open Go.RowKit Sq ArenaMath IndexMath MarkMath
open StoreMath hiding Tr dec_short tagL tag_short tx
open StoreMath.FT
set_option maxHeartbeats 4000000
set_option maxRecDepth 100000

def V8 (w : World) (t u : Nat) (W : World) : Prop := W.cell? ⟨w.heap.size, 0, none⟩ = some (.int .u8 (t : Int)) ∧ W.cell? ⟨w.heap.size, 1, none⟩ = some (.int .u32 (u : Int)) ∧
    W.cell? ⟨w.heap.size + 1, 0, none⟩ = some (.int .u8 0) ∧ W.cell? ⟨w.heap.size + 1, 1, none⟩ = some (.int .u32 0) ∧
    W.cell? ⟨w.heap.size + 1 + 1, 0, none⟩ = some (.int .u8 0) ∧ W.cell? ⟨w.heap.size + 1 + 1, 1, none⟩ = some (.int .u32 0) ∧
    (∀ i, W.frozen? ⟨w.heap.size + 1, i, none⟩ = false) ∧ (∀ i, W.frozen? ⟨w.heap.size + 1 + 1, i, none⟩ = false)
theorem V8.below {w W W' : World} {t u : Nat} (h : V8 w t u W) (hlt : w.heap.size + 1 + 1 < W.heap.size) (hb : Below W.heap.size W W') : V8 w t u W' :=
  ⟨Nd.cell_below h.1 hb, Nd.cell_below h.2.1 hb, Nd.cell_below h.2.2.1 hb, Nd.cell_below h.2.2.2.1 hb, Nd.cell_below h.2.2.2.2.1 hb, Nd.cell_below h.2.2.2.2.2.1 hb, fun i => (hb.frozen (by show w.heap.size + 1 < _; omega)).trans (h.2.2.2.2.2.2.1 i), fun i => (hb.frozen hlt).trans (h.2.2.2.2.2.2.2 i)⟩
end Go.Proofs.YtdniokdgghpkbaaGreatDoor.FT
namespace Go.Proofs.YtdniokdgghpkbaaGreatDoor.FT
open Go.RowKit Sq ArenaMath IndexMath MarkMath
open StoreMath hiding Tr dec_short tagL tag_short tx
open StoreMath.FT
set_option maxHeartbeats 4000000
set_option maxRecDepth 100000

end Go.Proofs.YtdniokdgghpkbaaGreatDoor.FT
namespace Go.Proofs.YtdniokdgghpkbaaGreatDoor.FT
open Go.RowKit Sq ArenaMath IndexMath MarkMath
open StoreMath hiding Tr dec_short tagL tag_short tx
open StoreMath.FT
set_option maxHeartbeats 4000000
set_option maxRecDepth 100000

end Go.Proofs.YtdniokdgghpkbaaGreatDoor.FT
namespace Go.Proofs.YtdniokdgghpkbaaGreatDoor.FT
open Go.RowKit Sq ArenaMath IndexMath MarkMath
open StoreMath hiding Tr dec_short tagL tag_short tx
open StoreMath.FT
set_option maxHeartbeats 4000000
set_option maxRecDepth 100000

end Go.Proofs.YtdniokdgghpkbaaGreatDoor.FT
namespace Go.Proofs.YtdniokdgghpkbaaGreatDoor.FT
open Go.RowKit Sq ArenaMath IndexMath MarkMath
open StoreMath hiding Tr dec_short tagL tag_short tx
open StoreMath.FT
set_option maxHeartbeats 4000000
set_option maxRecDepth 100000

end Go.Proofs.YtdniokdgghpkbaaGreatDoor.FT
namespace Go.Proofs.YtdniokdgghpkbaaGreatDoor.FT
open Go.RowKit Sq ArenaMath IndexMath MarkMath
open StoreMath hiding Tr dec_short tagL tag_short tx
open StoreMath.FT
set_option maxHeartbeats 4000000
set_option maxRecDepth 100000

end Go.Proofs.YtdniokdgghpkbaaGreatDoor.FT
namespace Go.Proofs.YtdniokdgghpkbaaGreatDoor.FT
open Go.RowKit Sq ArenaMath IndexMath MarkMath
open StoreMath hiding Tr dec_short tagL tag_short tx
open StoreMath.FT
set_option maxHeartbeats 4000000
set_option maxRecDepth 100000

end Go.Proofs.YtdniokdgghpkbaaGreatDoor.FT
namespace Go.Proofs.YtdniokdgghpkbaaGreatDoor.FT
open Go.RowKit Sq ArenaMath IndexMath MarkMath
open StoreMath hiding Tr dec_short tagL tag_short tx
open StoreMath.FT
set_option maxHeartbeats 4000000
set_option maxRecDepth 100000

end Go.Proofs.YtdniokdgghpkbaaGreatDoor.FT
namespace Go.Proofs.YtdniokdgghpkbaaGreatDoor.FT
open Go.RowKit Sq ArenaMath IndexMath MarkMath
open StoreMath hiding Tr dec_short tagL tag_short tx
open StoreMath.FT
set_option maxHeartbeats 4000000
set_option maxRecDepth 100000

end Go.Proofs.YtdniokdgghpkbaaGreatDoor.FT
namespace Go.Proofs.YtdniokdgghpkbaaGreatDoor.FT
open Go.RowKit Sq ArenaMath IndexMath MarkMath
open StoreMath hiding Tr dec_short tagL tag_short tx
open StoreMath.FT
set_option maxHeartbeats 4000000
set_option maxRecDepth 100000

end Go.Proofs.YtdniokdgghpkbaaGreatDoor.FT
namespace Go.Proofs.YtdniokdgghpkbaaGreatDoor.FT
open Go.RowKit Sq ArenaMath IndexMath MarkMath
open StoreMath hiding Tr dec_short tagL tag_short tx
open StoreMath.FT
set_option maxHeartbeats 4000000
set_option maxRecDepth 100000

end Go.Proofs.YtdniokdgghpkbaaGreatDoor.FT
namespace Go.Proofs.YtdniokdgghpkbaaGreatDoor
open Go.RowKit Sq StoreMath SetMath PermMath
set_option maxHeartbeats 4000000
set_option maxRecDepth 100000

/-- How many nodes a set's diagram has, form by form. -/
noncomputable def szL (p : List Int) (ws : List Nat) : List Int := [1, 2, 3, 4, 5].map fun f : Nat => (((gWant f (gmd f p.length 0 (lvT p ws))).length : Nat) : Int)
theorem szL_len (p : List Int) (ws : List Nat) : (szL p ws).length = 5 := rfl
theorem szL_at (p : List Int) (ws : List Nat) {k : Nat} (h : k < 5) : (szL p ws)[k]? = some (((gWant (k + 1) (gmd (k + 1) p.length 0 (lvT p ws))).length : Nat) : Int) := by
  unfold szL
  match k, h with
  | 0, _ => rfl
  | 1, _ => rfl
  | 2, _ => rfl
  | 3, _ => rfl
  | 4, _ => rfl
end Go.Proofs.YtdniokdgghpkbaaGreatDoor
namespace Go.Proofs.YtdniokdgghpkbaaGreatDoor
open Go.RowKit Sq StoreMath ArenaMath IndexMath SetMath PermMath
set_option maxHeartbeats 8000000
set_option maxRecDepth 100000

theorem shl_room {n R : Nat} (hn : n ≤ 16) (hR : R = 2 ^ n) : wrap64 ((2 : Int) ^ min n 64) = (R : Int) := by
  have h1 : R ≤ 65536 := by rw [hR]; exact pow_le16 hn
  have h2 : ((2 : Int) ^ min n 64) = (R : Int) := by rw [show min n 64 = n by omega, hR]; exact (Int.natCast_pow 2 n).symm
  rw [h2]
  unfold wrap64
  omega
theorem szof_yes {w : World} {go : Nat} {p : List Int} (ho : Od.Ord w go p) {v : Value} {ws : List Nat} (hset : Su.IsSet w v (p.length : Int) ws) (hr : RightS p.length ws) (htz : Tz64 w) {f : Nat} (hf : IsF f) :
    Calls Tryz.prog 76 #[Od.ptr go, .int .u8 (f : Int), v] w (RetV w (.tuple #[.int .i64 ((gWant f (gmd f p.length 0 (lvT p ws))).length : Nat), .int .u8 0])) := by
  have hn := ho.1.1
  have hset0 := hset
  obtain ⟨A, c9, rfl, -⟩ := set_slice hset
  obtain ⟨w0, hw0⟩ : ∃ W, W = w.alloc (.cells #[.int .i64 (p.length : Int), .slice A ws.length c9] 58) := ⟨_, rfl⟩
  have hb0 : Below w.heap.size w w0 := by rw [hw0]; exact Su.below_new w _
  have c0 : w0.heap[w.heap.size]? = some (.cells #[.int .i64 (p.length : Int), .slice A ws.length c9] 58) := by rw [hw0]; exact alloc_new _ _
  have hlt0 : w.heap.size < w0.heap.size := by rw [hw0, Nd.alloc_size]; omega
  have HD : Hid (∀ W : World, Below w0.heap.size w0 W → W.cell? ⟨w.heap.size, 0, none⟩ = some (.int .i64 (p.length : Int)) ∧ W.cell? ⟨w.heap.size, 1, none⟩ = some (.slice A ws.length c9)) := Lib.hid (fun W hb => by
    have := (hb.block w.heap.size hlt0).trans c0
    exact ⟨block_cell this, block_cell this⟩)
  have HO := Lib.hid (fun W (hb : Below w.heap.size w W) => Od.vars_any W go p (ho.below hb))
  obtain ⟨R, hR⟩ : ∃ R, R = 2 ^ p.length := ⟨_, rfl⟩
  have hR16 : R ≤ 65536 := by rw [hR]; exact pow_le16 hn
  have ish := shl_room hn hR
  have HNEW := Lib.hid (fun w1 => snew_ok p.length R w1 hn (by omega))
  have hgn : Hale ⟨p.length, R, [], []⟩ := good_new hn (by omega)
  have hbd := bdG_spec hf p.length 0 ⟨p.length, R, [], []⟩ (lvT p ws) hgn (Nat.zero_add _) (lvT_len p ws)
  have hok := hbd.2.2.2.2.2.2.2 (by rw [← hR]; show R ≤ R + 0 - 0 + 1; omega)
  have HOF := Lib.hid (fun (W : World) (C : Nat → Prop) (g : Nat) (hs : Sto W C g ⟨p.length, R, [], []⟩) (hb : Below w.heap.size w W) => bof_yes f hf hs hgn (ho.below hb) rfl (hset0.below hb) hr (htz.below hb))
  obtain ⟨h1, h2, h3, -⟩ := hbd
  generalize bdG f ⟨p.length, R, [], []⟩ p.length 0 (lvT p ws) = q at *
  obtain ⟨b2, ⟨t2, u2⟩, er⟩ := q
  simp only at hok h1 h2 h3 HOF
  subst hok
  have hgu := h3 rfl
  have hb2n : b2.n = p.length := h2.n
  have hwt : Gw f b2.n (gmd f p.length 0 (lvT p ws)) 0 := gmd_wt hf p.length 0 (lvT p ws) (by rw [hb2n]; omega)
  obtain ⟨hs1, hs2⟩ := hgu.small h1 hwt (by rw [hb2n]; exact hn)
  have hckE : ckE f b2 t2 u2 0 = 0 := by
    have hld := hgu.leads hf h1 hwt rfl (Nat.zero_le _)
    have e1 : ckG f b2 0 = 0 := by unfold ckG; rw [if_neg (fun h => h hf), if_neg (by omega)]
    unfold ckE
    rw [if_neg (by rw [e1]; exact fun h => h rfl), if_neg (by rw [show b2.leads f t2 u2 0 = true from hld]; decide)]
  have hszw : szR b2 u2 = (gWant f (gmd f p.length 0 (lvT p ws))).length := szR_is hf h1 hgu hwt
  have HSZ : Hid (∀ (W : World) C g, Sto W C g b2 → Tz64 W → Calls Tryz.prog 41 #[.pointer (some ⟨g, 0, none⟩), .int .u8 (f : Int), .agg #[.int .u8 (t2 : Int), .int .u32 (u2 : Int)], .int .i64 0] W (RetV W (.tuple #[.int .i64 (szR b2 u2 : Nat), .int .u8 0]))) := Lib.hid (fun W C g hs ht => csize_any hs ht f t2 u2 0 hs1 hs2 hckE)
  rw [hszw] at HSZ
  have HTZ := Lib.hid htz
  have HB0 := Lib.hid hb0
  generalize (gWant f (gmd f p.length 0 (lvT p ws))).length = m at *
  generalize ws.length = len at *
  generalize p.length = n at *
  clear ho hset hset0 hr htz hb0 c0 hlt0 hR hR16 hgn h1 h2 h3 hgu hb2n hwt hs1 hs2 hckE hszw hn hf
  obtain ⟨d0, d1⟩ := HD.out w0 (Below.refl _ _)
  go_enter Tryz.func76, Tryz.ntmps76
  go_upto_region 1 with fail
  rw [← hw0]
  clear hw0
  go_wp2_with fail
  refine (HO.out w0 HB0.out).mono ?_
  rintro e w1 ⟨rfl, rfl⟩
  go_wp2_with fail
  refine (HO.out _ HB0.out).mono ?_
  rintro e w1 ⟨rfl, rfl⟩
  go_wp2_with fail
  refine (HNEW.out _).mono ?_
  clear d0 d1
  rintro e w2 ⟨g, rfl, C, h2, hC2, hb2⟩
  obtain ⟨d0, d1⟩ := HD.out w2 hb2
  have HB2 := Lib.hid (Below.step HB0.out hb2)
  have HC := Lib.hid (HOF.out w2 C g h2 HB2.out)
  have hin := h2.inside
  have HCW : Hid (∀ k, C k → w.heap.size ≤ k) := Lib.hid (fun k hk => by have := hC2 k hk; have := HB0.out.size; omega)
  clear h2 hC2 hb2 hin HO HNEW HOF
  go_wp2_with fail
  refine HC.out.mono ?_
  clear HC d0 d1
  rintro e w5 ⟨rfl, C', q1, q2, q3⟩
  have hb5 : Below w.heap.size w w5 := HB2.out.trans (q2.below HCW.out HB2.out.size)
  obtain ⟨w6, hw6⟩ : ∃ W, W = w5.alloc (.cells #[.int .u8 (t2 : Int), .int .u32 (u2 : Int)] 25) := ⟨_, rfl⟩
  have hb6 : Below w5.heap.size w5 w6 := by rw [hw6]; exact new_below _ _
  have hg6 : EdgeAt w6 w5.heap.size t2 u2 := by rw [hw6]; exact alloc_new _ _
  have HC6 := Lib.hid (HSZ.out w6 C' g (q1.below hb6) (HTZ.out.below (Below.step hb5 hb6)))
  have HB6 := Lib.hid (Below.step hb5 hb6)
  obtain ⟨e0, e1, -⟩ := hg6.cells
  clear q1 q2 q3 hb5 hb6 hg6 HSZ
  go_upto_region 5 with fail
  rw [← hw6]
  clear hw6
  go_wp2_with fail
  refine HC6.out.mono ?_
  clear HC6 e0 e1
  rintro e w7 ⟨rfl, hb7⟩
  have HE := Lib.hid (Below.step HB6.out hb7)
  clear hb7
  go_wp2_with fail
  go_ret2
  exact ⟨rfl, HE.out⟩
end Go.Proofs.YtdniokdgghpkbaaGreatDoor
