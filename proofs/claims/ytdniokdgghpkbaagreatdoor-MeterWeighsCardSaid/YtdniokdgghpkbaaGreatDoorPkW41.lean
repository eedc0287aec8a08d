/- Texts that the proof is built on (QZH, QCH, QXH, QTH, McN, MtS, MtW, McI, McL); no statement of the seat. -/
import Derived.Test.YtdniokdgghpkbaaGreatDoorPkW17
import Derived.Test.YtdniokdgghpkbaaGreatDoorPkW18
import Derived.Test.YtdniokdgghpkbaaGreatDoorPkW22
import Derived.BigRegion
import Derived.Test.YtdniokdgghpkbaaGreatDoorPkW19
import Derived.StillTailTactics
import Derived.Deep.RegionWith
import Derived.Test.YtdniokdgghpkbaaGreatDoorPkW12
import Derived.BigQuiet
import Derived.Test.YtdniokdgghpkbaaGreatDoorPkW14
import Derived.Test.YtdniokdgghpkbaaGreatDoorPkW15
import Derived.Deep.RegionHeld3
import Derived.Test.YtdniokdgghpkbaaGreatDoorPkW20
import Derived.Test.YtdniokdgghpkbaaGreatDoorPkW21
import Derived.Test.YtdniokdgghpkbaaGreatDoorPkW38
import Derived.Test.YtdniokdgghpkbaaGreatDoorPkW40
import Derived.Laws.Rows
import Derived.RegionTactic
import Derived.Test.YtdniokdgghpkbaaGreatDoorPkW33
import Derived.Test.YtdniokdgghpkbaaGreatDoorPkW36
import Derived.KernelRfl
namespace Go.Proofs.YtdniokdgghpkbaaGreatDoor.FZ
open Go.RowKit Sq ArenaMath IndexMath MarkMath
open StoreMath hiding Tr dec_short tx
open StoreMath.FZ
set_option maxHeartbeats 4000000
set_option maxRecDepth 100000

def V8 (w : World) (t u : Nat) (W : World) : Prop := W.cell? ⟨w.heap.size, 0, none⟩ = some (.int .u8 (t : Int)) ∧ W.cell? ⟨w.heap.size, 1, none⟩ = some (.int .u32 (u : Int)) ∧
    W.cell? ⟨w.heap.size + 1, 0, none⟩ = some (.int .u8 0) ∧ W.cell? ⟨w.heap.size + 1, 1, none⟩ = some (.int .u32 0) ∧
    W.cell? ⟨w.heap.size + 1 + 1, 0, none⟩ = some (.int .u8 0) ∧ W.cell? ⟨w.heap.size + 1 + 1, 1, none⟩ = some (.int .u32 0) ∧
    (∀ i, W.frozen? ⟨w.heap.size + 1, i, none⟩ = false) ∧ (∀ i, W.frozen? ⟨w.heap.size + 1 + 1, i, none⟩ = false)
theorem V8.below {w W W' : World} {t u : Nat} (h : V8 w t u W) (hlt : w.heap.size + 1 + 1 < W.heap.size) (hb : Below W.heap.size W W') : V8 w t u W' :=
  ⟨Nd.cell_below h.1 hb, Nd.cell_below h.2.1 hb, Nd.cell_below h.2.2.1 hb, Nd.cell_below h.2.2.2.1 hb, Nd.cell_below h.2.2.2.2.1 hb, Nd.cell_below h.2.2.2.2.2.1 hb, fun i => (hb.frozen (by show w.heap.size + 1 < _; omega)).trans (h.2.2.2.2.2.2.1 i), fun i => (hb.frozen hlt).trans (h.2.2.2.2.2.2.2 i)⟩
end Go.Proofs.YtdniokdgghpkbaaGreatDoor.FZ
namespace Go.Proofs.YtdniokdgghpkbaaGreatDoor.FZ
open Go.RowKit Sq ArenaMath IndexMath MarkMath
open StoreMath hiding Tr dec_short tx
open StoreMath.FZ
set_option maxHeartbeats 4000000
set_option maxRecDepth 100000

end Go.Proofs.YtdniokdgghpkbaaGreatDoor.FZ
namespace Go.Proofs.YtdniokdgghpkbaaGreatDoor.FZ
open Go.RowKit Sq ArenaMath IndexMath MarkMath
open StoreMath hiding Tr dec_short tx
open StoreMath.FZ
set_option maxHeartbeats 4000000
set_option maxRecDepth 100000

end Go.Proofs.YtdniokdgghpkbaaGreatDoor.FZ
namespace Go.Proofs.YtdniokdgghpkbaaGreatDoor.FZ
open Go.RowKit Sq ArenaMath IndexMath MarkMath
open StoreMath hiding Tr dec_short tx
open StoreMath.FZ
set_option maxHeartbeats 4000000
set_option maxRecDepth 100000

end Go.Proofs.YtdniokdgghpkbaaGreatDoor.FZ
namespace Go.Proofs.YtdniokdgghpkbaaGreatDoor.FZ
open Go.RowKit Sq ArenaMath IndexMath MarkMath
open StoreMath hiding Tr dec_short tx
open StoreMath.FZ
set_option maxHeartbeats 4000000
set_option maxRecDepth 100000

end Go.Proofs.YtdniokdgghpkbaaGreatDoor.FZ
namespace Go.Proofs.YtdniokdgghpkbaaGreatDoor.FZ
open Go.RowKit Sq ArenaMath IndexMath MarkMath
open StoreMath hiding Tr dec_short tx
open StoreMath.FZ
set_option maxHeartbeats 4000000
set_option maxRecDepth 100000

end Go.Proofs.YtdniokdgghpkbaaGreatDoor.FZ
namespace Go.Proofs.YtdniokdgghpkbaaGreatDoor.FZ
open Go.RowKit Sq ArenaMath IndexMath MarkMath
open StoreMath hiding Tr dec_short tx
open StoreMath.FZ
set_option maxHeartbeats 4000000
set_option maxRecDepth 100000

end Go.Proofs.YtdniokdgghpkbaaGreatDoor.FZ
namespace Go.Proofs.YtdniokdgghpkbaaGreatDoor.FZ
open Go.RowKit Sq ArenaMath IndexMath MarkMath
open StoreMath hiding Tr dec_short tx
open StoreMath.FZ
set_option maxHeartbeats 4000000
set_option maxRecDepth 100000

end Go.Proofs.YtdniokdgghpkbaaGreatDoor.FZ
namespace Go.Proofs.YtdniokdgghpkbaaGreatDoor.FZ
open Go.RowKit Sq ArenaMath IndexMath MarkMath
open StoreMath hiding Tr dec_short tx
open StoreMath.FZ
set_option maxHeartbeats 4000000
set_option maxRecDepth 100000

end Go.Proofs.YtdniokdgghpkbaaGreatDoor.FZ
namespace Go.Proofs.YtdniokdgghpkbaaGreatDoor.FC
open Go.RowKit Sq ArenaMath IndexMath MarkMath
open StoreMath hiding Tr dec_short ne_hi tx
open StoreMath.FC
set_option maxHeartbeats 4000000
set_option maxRecDepth 100000

def V8 (w : World) (t u : Nat) (W : World) : Prop := W.cell? ⟨w.heap.size, 0, none⟩ = some (.int .u8 (t : Int)) ∧ W.cell? ⟨w.heap.size, 1, none⟩ = some (.int .u32 (u : Int)) ∧
    W.cell? ⟨w.heap.size + 1, 0, none⟩ = some (.int .u8 0) ∧ W.cell? ⟨w.heap.size + 1, 1, none⟩ = some (.int .u32 0) ∧
    W.cell? ⟨w.heap.size + 1 + 1, 0, none⟩ = some (.int .u8 0) ∧ W.cell? ⟨w.heap.size + 1 + 1, 1, none⟩ = some (.int .u32 0) ∧
    (∀ i, W.frozen? ⟨w.heap.size + 1, i, none⟩ = false) ∧ (∀ i, W.frozen? ⟨w.heap.size + 1 + 1, i, none⟩ = false)
theorem V8.below {w W W' : World} {t u : Nat} (h : V8 w t u W) (hlt : w.heap.size + 1 + 1 < W.heap.size) (hb : Below W.heap.size W W') : V8 w t u W' :=
  ⟨Nd.cell_below h.1 hb, Nd.cell_below h.2.1 hb, Nd.cell_below h.2.2.1 hb, Nd.cell_below h.2.2.2.1 hb, Nd.cell_below h.2.2.2.2.1 hb, Nd.cell_below h.2.2.2.2.2.1 hb, fun i => (hb.frozen (by show w.heap.size + 1 < _; omega)).trans (h.2.2.2.2.2.2.1 i), fun i => (hb.frozen hlt).trans (h.2.2.2.2.2.2.2 i)⟩
end Go.Proofs.YtdniokdgghpkbaaGreatDoor.FC
namespace Go.Proofs.YtdniokdgghpkbaaGreatDoor.FC
open Go.RowKit Sq ArenaMath IndexMath MarkMath
open StoreMath hiding Tr dec_short ne_hi tx
open StoreMath.FC
set_option maxHeartbeats 4000000
set_option maxRecDepth 100000

end Go.Proofs.YtdniokdgghpkbaaGreatDoor.FC
namespace Go.Proofs.YtdniokdgghpkbaaGreatDoor.FC
open Go.RowKit Sq ArenaMath IndexMath MarkMath
open StoreMath hiding Tr dec_short ne_hi tx
open StoreMath.FC
set_option maxHeartbeats 4000000
set_option maxRecDepth 100000

end Go.Proofs.YtdniokdgghpkbaaGreatDoor.FC
namespace Go.Proofs.YtdniokdgghpkbaaGreatDoor.FC
open Go.RowKit Sq ArenaMath IndexMath MarkMath
open StoreMath hiding Tr dec_short ne_hi tx
open StoreMath.FC
set_option maxHeartbeats 4000000
set_option maxRecDepth 100000

end Go.Proofs.YtdniokdgghpkbaaGreatDoor.FC
namespace Go.Proofs.YtdniokdgghpkbaaGreatDoor.FC
open Go.RowKit Sq ArenaMath IndexMath MarkMath
open StoreMath hiding Tr dec_short ne_hi tx
open StoreMath.FC
set_option maxHeartbeats 4000000
set_option maxRecDepth 100000

end Go.Proofs.YtdniokdgghpkbaaGreatDoor.FC
namespace Go.Proofs.YtdniokdgghpkbaaGreatDoor.FC
open Go
section
variable {P : Program} {ops : Array Oper} {md : Region.Mode} {w : World} {n : Nat}

end
end Go.Proofs.YtdniokdgghpkbaaGreatDoor.FC
namespace Go.Proofs.YtdniokdgghpkbaaGreatDoor.FC
open Go.RowKit Sq ArenaMath IndexMath MarkMath
open StoreMath hiding Tr dec_short ne_hi tx
open StoreMath.FC
set_option maxHeartbeats 4000000
set_option maxRecDepth 100000

end Go.Proofs.YtdniokdgghpkbaaGreatDoor.FC
namespace Go.Proofs.YtdniokdgghpkbaaGreatDoor.FC
open Go.RowKit Sq ArenaMath IndexMath MarkMath
open StoreMath hiding Tr dec_short ne_hi tx
open StoreMath.FC
set_option maxHeartbeats 4000000
set_option maxRecDepth 100000

end Go.Proofs.YtdniokdgghpkbaaGreatDoor.FC
namespace Go.Proofs.YtdniokdgghpkbaaGreatDoor.FC
open Go.RowKit Sq ArenaMath IndexMath MarkMath
open StoreMath hiding Tr dec_short ne_hi tx
open StoreMath.FC
set_option maxHeartbeats 4000000
set_option maxRecDepth 100000

end Go.Proofs.YtdniokdgghpkbaaGreatDoor.FC
namespace Go.Proofs.YtdniokdgghpkbaaGreatDoor.FC
open Go.RowKit Sq ArenaMath IndexMath MarkMath
open StoreMath hiding Tr dec_short ne_hi tx
open StoreMath.FC
set_option maxHeartbeats 4000000
set_option maxRecDepth 100000

end Go.Proofs.YtdniokdgghpkbaaGreatDoor.FC
namespace Go.Proofs.YtdniokdgghpkbaaGreatDoor.FC
open Go.RowKit Sq ArenaMath IndexMath MarkMath
open StoreMath hiding Tr dec_short ne_hi tx
open StoreMath.FC
set_option maxHeartbeats 4000000
set_option maxRecDepth 100000

end Go.Proofs.YtdniokdgghpkbaaGreatDoor.FC
namespace Go.Proofs.YtdniokdgghpkbaaGreatDoor.FC
open Go.RowKit Sq ArenaMath IndexMath MarkMath
open StoreMath hiding Tr dec_short ne_hi tx
open StoreMath.FC
set_option maxHeartbeats 4000000
set_option maxRecDepth 100000

end Go.Proofs.YtdniokdgghpkbaaGreatDoor.FC
namespace Go.Proofs.YtdniokdgghpkbaaGreatDoor.FX
open Go.RowKit Sq ArenaMath IndexMath MarkMath
open StoreMath hiding Tr dec_short tx
open StoreMath.FX
set_option maxHeartbeats 4000000
set_option maxRecDepth 100000

def V8 (w : World) (t u : Nat) (W : World) : Prop := W.cell? ⟨w.heap.size, 0, none⟩ = some (.int .u8 (t : Int)) ∧ W.cell? ⟨w.heap.size, 1, none⟩ = some (.int .u32 (u : Int)) ∧
    W.cell? ⟨w.heap.size + 1, 0, none⟩ = some (.int .u8 0) ∧ W.cell? ⟨w.heap.size + 1, 1, none⟩ = some (.int .u32 0) ∧
    W.cell? ⟨w.heap.size + 1 + 1, 0, none⟩ = some (.int .u8 0) ∧ W.cell? ⟨w.heap.size + 1 + 1, 1, none⟩ = some (.int .u32 0) ∧
    (∀ i, W.frozen? ⟨w.heap.size + 1, i, none⟩ = false) ∧ (∀ i, W.frozen? ⟨w.heap.size + 1 + 1, i, none⟩ = false)
theorem V8.below {w W W' : World} {t u : Nat} (h : V8 w t u W) (hlt : w.heap.size + 1 + 1 < W.heap.size) (hb : Below W.heap.size W W') : V8 w t u W' :=
  ⟨Nd.cell_below h.1 hb, Nd.cell_below h.2.1 hb, Nd.cell_below h.2.2.1 hb, Nd.cell_below h.2.2.2.1 hb, Nd.cell_below h.2.2.2.2.1 hb, Nd.cell_below h.2.2.2.2.2.1 hb, fun i => (hb.frozen (by show w.heap.size + 1 < _; omega)).trans (h.2.2.2.2.2.2.1 i), fun i => (hb.frozen hlt).trans (h.2.2.2.2.2.2.2 i)⟩
end Go.Proofs.YtdniokdgghpkbaaGreatDoor.FX
namespace Go.Proofs.YtdniokdgghpkbaaGreatDoor.FX
open Go.RowKit Sq ArenaMath IndexMath MarkMath
open StoreMath hiding Tr dec_short tx
open StoreMath.FX
set_option maxHeartbeats 4000000
set_option maxRecDepth 100000

end Go.Proofs.YtdniokdgghpkbaaGreatDoor.FX
namespace Go.Proofs.YtdniokdgghpkbaaGreatDoor.FX
open Go.RowKit Sq ArenaMath IndexMath MarkMath
open StoreMath hiding Tr dec_short tx
open StoreMath.FX
set_option maxHeartbeats 4000000
set_option maxRecDepth 100000

end Go.Proofs.YtdniokdgghpkbaaGreatDoor.FX
namespace Go.Proofs.YtdniokdgghpkbaaGreatDoor.FX
open Go.RowKit Sq ArenaMath IndexMath MarkMath
open StoreMath hiding Tr dec_short tx
open StoreMath.FX
set_option maxHeartbeats 4000000
set_option maxRecDepth 100000

end Go.Proofs.YtdniokdgghpkbaaGreatDoor.FX
namespace Go.Proofs.YtdniokdgghpkbaaGreatDoor.FX
open Go.RowKit Sq ArenaMath IndexMath MarkMath
open StoreMath hiding Tr dec_short tx
open StoreMath.FX
set_option maxHeartbeats 4000000
set_option maxRecDepth 100000

end Go.Proofs.YtdniokdgghpkbaaGreatDoor.FX
namespace Go.Proofs.YtdniokdgghpkbaaGreatDoor.FX
open Go
section
variable {P : Program} {ops : Array Oper} {md : Region.Mode} {w : World} {n : Nat}

end
end Go.Proofs.YtdniokdgghpkbaaGreatDoor.FX
namespace Go.Proofs.YtdniokdgghpkbaaGreatDoor.FX
open Go.RowKit Sq ArenaMath IndexMath MarkMath
open StoreMath hiding Tr dec_short tx
open StoreMath.FX
set_option maxHeartbeats 4000000
set_option maxRecDepth 100000

end Go.Proofs.YtdniokdgghpkbaaGreatDoor.FX
namespace Go.Proofs.YtdniokdgghpkbaaGreatDoor.FX
open Go.RowKit Sq ArenaMath IndexMath MarkMath
open StoreMath hiding Tr dec_short tx
open StoreMath.FX
set_option maxHeartbeats 4000000
set_option maxRecDepth 100000

end Go.Proofs.YtdniokdgghpkbaaGreatDoor.FX
namespace Go.Proofs.YtdniokdgghpkbaaGreatDoor.FX
open Go.RowKit Sq ArenaMath IndexMath MarkMath
open StoreMath hiding Tr dec_short tx
open StoreMath.FX
set_option maxHeartbeats 4000000
set_option maxRecDepth 100000

end Go.Proofs.YtdniokdgghpkbaaGreatDoor.FX
namespace Go.Proofs.YtdniokdgghpkbaaGreatDoor.FX
open Go.RowKit Sq ArenaMath IndexMath MarkMath
open StoreMath hiding Tr dec_short tx
open StoreMath.FX
set_option maxHeartbeats 4000000
set_option maxRecDepth 100000

end Go.Proofs.YtdniokdgghpkbaaGreatDoor.FX
namespace Go.Proofs.YtdniokdgghpkbaaGreatDoor.FX
open Go.RowKit Sq ArenaMath IndexMath MarkMath
open StoreMath hiding Tr dec_short tx
open StoreMath.FX
set_option maxHeartbeats 4000000
set_option maxRecDepth 100000

end Go.Proofs.YtdniokdgghpkbaaGreatDoor.FX
namespace Go.Proofs.YtdniokdgghpkbaaGreatDoor.FX
open Go.RowKit Sq ArenaMath IndexMath MarkMath
open StoreMath hiding Tr dec_short tx
open StoreMath.FX
set_option maxHeartbeats 4000000
set_option maxRecDepth 100000

end Go.Proofs.YtdniokdgghpkbaaGreatDoor.FX
namespace Go.Proofs.YtdniokdgghpkbaaGreatDoor.FT
open Go.RowKit Sq ArenaMath IndexMath MarkMath
open StoreMath hiding Tr dec_short tagL tag_short tx
open StoreMath.FT
set_option maxHeartbeats 4000000
set_option maxRecDepth 100000

def V8 (w : World) (t u : Nat) (W : World) : Prop := W.cell? ⟨w.heap.size, 0, none⟩ = some (.int .u8 (t : Int)) ∧ W.cell? ⟨w.heap.size, 1, none⟩ = some (.int .u32 (u : Int)) ∧
    W.cell? ⟨w.heap.size + 1, 0, none⟩ = some (.int .u8 0) ∧ W.cell? ⟨w.heap.size + 1, 1, none⟩ = some (.int .u32 0) ∧
    W.cell? ⟨w.heap.size + 1 + 1, 0, none⟩ = some (.int .u8 0) ∧ W.cell? ⟨w.heap.size + 1 + 1, 1, none⟩ = some (.int .u32 0) ∧
    (∀ i, W.frozen? ⟨w.heap.size + 1, i, none⟩ = false) ∧ (∀ i, W.frozen? ⟨w.heap.size + 1 + 1, i, none⟩ = false)
theorem V8.below {w W W' : World} {t u : Nat} (h : V8 w t u W) (hlt : w.heap.size + 1 + 1 < W.heap.size) (hb : Below W.heap.size W W') : V8 w t u W' :=
  ⟨Nd.cell_below h.1 hb, Nd.cell_below h.2.1 hb, Nd.cell_below h.2.2.1 hb, Nd.cell_below h.2.2.2.1 hb, Nd.cell_below h.2.2.2.2.1 hb, Nd.cell_below h.2.2.2.2.2.1 hb, fun i => (hb.frozen (by show w.heap.size + 1 < _; omega)).trans (h.2.2.2.2.2.2.1 i), fun i => (hb.frozen hlt).trans (h.2.2.2.2.2.2.2 i)⟩
end Go.Proofs.YtdniokdgghpkbaaGreatDoor.FT
namespace Go.Proofs.YtdniokdgghpkbaaGreatDoor.FT
open Go.RowKit Sq ArenaMath IndexMath MarkMath
open StoreMath hiding Tr dec_short tagL tag_short tx
open StoreMath.FT
set_option maxHeartbeats 4000000
set_option maxRecDepth 100000

end Go.Proofs.YtdniokdgghpkbaaGreatDoor.FT
namespace Go.Proofs.YtdniokdgghpkbaaGreatDoor.FT
open Go.RowKit Sq ArenaMath IndexMath MarkMath
open StoreMath hiding Tr dec_short tagL tag_short tx
open StoreMath.FT
set_option maxHeartbeats 4000000
set_option maxRecDepth 100000

end Go.Proofs.YtdniokdgghpkbaaGreatDoor.FT
namespace Go.Proofs.YtdniokdgghpkbaaGreatDoor.FT
open Go.RowKit Sq ArenaMath IndexMath MarkMath
open StoreMath hiding Tr dec_short tagL tag_short tx
open StoreMath.FT
set_option maxHeartbeats 4000000
set_option maxRecDepth 100000

end Go.Proofs.YtdniokdgghpkbaaGreatDoor.FT
namespace Go.Proofs.YtdniokdgghpkbaaGreatDoor.FT
open Go.RowKit Sq ArenaMath IndexMath MarkMath
open StoreMath hiding Tr dec_short tagL tag_short tx
open StoreMath.FT
set_option maxHeartbeats 4000000
set_option maxRecDepth 100000

end Go.Proofs.YtdniokdgghpkbaaGreatDoor.FT
namespace Go.Proofs.YtdniokdgghpkbaaGreatDoor.FT
open Go.RowKit Sq ArenaMath IndexMath MarkMath
open StoreMath hiding Tr dec_short tagL tag_short tx
open StoreMath.FT
set_option maxHeartbeats 4000000
set_option maxRecDepth 100000

end Go.Proofs.YtdniokdgghpkbaaGreatDoor.FT
namespace Go.Proofs.YtdniokdgghpkbaaGreatDoor.FT
open Go.RowKit Sq ArenaMath IndexMath MarkMath
open StoreMath hiding Tr dec_short tagL tag_short tx
open StoreMath.FT
set_option maxHeartbeats 4000000
set_option maxRecDepth 100000

end Go.Proofs.YtdniokdgghpkbaaGreatDoor.FT
namespace Go.Proofs.YtdniokdgghpkbaaGreatDoor.FT
open Go.RowKit Sq ArenaMath IndexMath MarkMath
open StoreMath hiding Tr dec_short tagL tag_short tx
open StoreMath.FT
set_option maxHeartbeats 4000000
set_option maxRecDepth 100000

end Go.Proofs.YtdniokdgghpkbaaGreatDoor.FT
namespace Go.Proofs.YtdniokdgghpkbaaGreatDoor.FT
open Go.RowKit Sq ArenaMath IndexMath MarkMath
open StoreMath hiding Tr dec_short tagL tag_short tx
open StoreMath.FT
set_option maxHeartbeats 4000000
set_option maxRecDepth 100000

end Go.Proofs.YtdniokdgghpkbaaGreatDoor.FT
namespace Go.Proofs.YtdniokdgghpkbaaGreatDoor.FT
open Go.RowKit Sq ArenaMath IndexMath MarkMath
open StoreMath hiding Tr dec_short tagL tag_short tx
open StoreMath.FT
set_option maxHeartbeats 4000000
set_option maxRecDepth 100000

end Go.Proofs.YtdniokdgghpkbaaGreatDoor.FT
namespace Go.Proofs.YtdniokdgghpkbaaGreatDoor.FT
open Go.RowKit Sq ArenaMath IndexMath MarkMath
open StoreMath hiding Tr dec_short tagL tag_short tx
open StoreMath.FT
set_option maxHeartbeats 4000000
set_option maxRecDepth 100000

end Go.Proofs.YtdniokdgghpkbaaGreatDoor.FT
namespace Go.Proofs.YtdniokdgghpkbaaGreatDoor
open Go.RowKit Sq StoreMath SetMath PermMath
set_option maxHeartbeats 4000000
set_option maxRecDepth 100000

noncomputable def szL (p : List Int) (ws : List Nat) : List Int := [1, 2, 3, 4, 5].map fun f : Nat => (((gWant f (gmd f p.length 0 (lvT p ws))).length : Nat) : Int)
theorem szL_len (p : List Int) (ws : List Nat) : (szL p ws).length = 5 := rfl
theorem szL_at (p : List Int) (ws : List Nat) {k : Nat} (h : k < 5) : (szL p ws)[k]? = some (((gWant (k + 1) (gmd (k + 1) p.length 0 (lvT p ws))).length : Nat) : Int) := by
  unfold szL
  match k, h with
  | 0, _ => rfl
  | 1, _ => rfl
  | 2, _ => rfl
  | 3, _ => rfl
  | 4, _ => rfl
end Go.Proofs.YtdniokdgghpkbaaGreatDoor
namespace Go.Proofs.YtdniokdgghpkbaaGreatDoor
open Go.RowKit Sq StoreMath ArenaMath IndexMath SetMath PermMath
set_option maxHeartbeats 8000000
set_option maxRecDepth 100000

theorem shl_room {n R : Nat} (hn : n ≤ 16) (hR : R = 2 ^ n) : wrap64 ((2 : Int) ^ min n 64) = (R : Int) := by
  have h1 : R ≤ 65536 := by rw [hR]; exact pow_le16 hn
  have h2 : ((2 : Int) ^ min n 64) = (R : Int) := by rw [show min n 64 = n by omega, hR]; exact (Int.natCast_pow 2 n).symm
  rw [h2]
  unfold wrap64
  omega
theorem szof_yes {w : World} {go : Nat} {p : List Int} (ho : Od.Ord w go p) {v : Value} {ws : List Nat} (hset : Su.IsSet w v (p.length : Int) ws) (hr : RightS p.length ws) (htz : Tz64 w) {f : Nat} (hf : IsF f) :
    Calls Tryz.prog 76 #[Od.ptr go, .int .u8 (f : Int), v] w (RetV w (.tuple #[.int .i64 ((gWant f (gmd f p.length 0 (lvT p ws))).length : Nat), .int .u8 0])) := by
  have hn := ho.1.1
  have hset0 := hset
  obtain ⟨A, c9, rfl, -⟩ := set_slice hset
  obtain ⟨w0, hw0⟩ : ∃ W, W = w.alloc (.cells #[.int .i64 (p.length : Int), .slice A ws.length c9] 58) := ⟨_, rfl⟩
  have hb0 : Below w.heap.size w w0 := by rw [hw0]; exact Su.below_new w _
  have c0 : w0.heap[w.heap.size]? = some (.cells #[.int .i64 (p.length : Int), .slice A ws.length c9] 58) := by rw [hw0]; exact alloc_new _ _
  have hlt0 : w.heap.size < w0.heap.size := by rw [hw0, Nd.alloc_size]; omega
  have HD : Hid (∀ W : World, Below w0.heap.size w0 W → W.cell? ⟨w.heap.size, 0, none⟩ = some (.int .i64 (p.length : Int)) ∧ W.cell? ⟨w.heap.size, 1, none⟩ = some (.slice A ws.length c9)) := Lib.hid (fun W hb => by
    have := (hb.block w.heap.size hlt0).trans c0
    exact ⟨block_cell this, block_cell this⟩)
  have HO := Lib.hid (fun W (hb : Below w.heap.size w W) => Od.vars_any W go p (ho.below hb))
  obtain ⟨R, hR⟩ : ∃ R, R = 2 ^ p.length := ⟨_, rfl⟩
  have hR16 : R ≤ 65536 := by rw [hR]; exact pow_le16 hn
  have ish := shl_room hn hR
  have HNEW := Lib.hid (fun w1 => snew_ok p.length R w1 hn (by omega))
  have hgn : Hale ⟨p.length, R, [], []⟩ := good_new hn (by omega)
  have hbd := bdG_spec hf p.length 0 ⟨p.length, R, [], []⟩ (lvT p ws) hgn (Nat.zero_add _) (lvT_len p ws)
  have hok := hbd.2.2.2.2.2.2.2 (by rw [← hR]; show R ≤ R + 0 - 0 + 1; omega)
  have HOF := Lib.hid (fun (W : World) (C : Nat → Prop) (g : Nat) (hs : Sto W C g ⟨p.length, R, [], []⟩) (hb : Below w.heap.size w W) => bof_yes f hf hs hgn (ho.below hb) rfl (hset0.below hb) hr (htz.below hb))
  obtain ⟨h1, h2, h3, -⟩ := hbd
  generalize bdG f ⟨p.length, R, [], []⟩ p.length 0 (lvT p ws) = q at *
  obtain ⟨b2, ⟨t2, u2⟩, er⟩ := q
  simp only at hok h1 h2 h3 HOF
  subst hok
  have hgu := h3 rfl
  have hb2n : b2.n = p.length := h2.n
  have hwt : Gw f b2.n (gmd f p.length 0 (lvT p ws)) 0 := gmd_wt hf p.length 0 (lvT p ws) (by rw [hb2n]; omega)
  obtain ⟨hs1, hs2⟩ := hgu.small h1 hwt (by rw [hb2n]; exact hn)
  have hckE : ckE f b2 t2 u2 0 = 0 := by
    have hld := hgu.leads hf h1 hwt rfl (Nat.zero_le _)
    have e1 : ckG f b2 0 = 0 := by unfold ckG; rw [if_neg (fun h => h hf), if_neg (by omega)]
    unfold ckE
    rw [if_neg (by rw [e1]; exact fun h => h rfl), if_neg (by rw [show b2.leads f t2 u2 0 = true from hld]; decide)]
  have hszw : szR b2 u2 = (gWant f (gmd f p.length 0 (lvT p ws))).length := szR_is hf h1 hgu hwt
  have HSZ : Hid (∀ (W : World) C g, Sto W C g b2 → Tz64 W → Calls Tryz.prog 41 #[.pointer (some ⟨g, 0, none⟩), .int .u8 (f : Int), .agg #[.int .u8 (t2 : Int), .int .u32 (u2 : Int)], .int .i64 0] W (RetV W (.tuple #[.int .i64 (szR b2 u2 : Nat), .int .u8 0]))) := Lib.hid (fun W C g hs ht => csize_any hs ht f t2 u2 0 hs1 hs2 hckE)
  rw [hszw] at HSZ
  have HTZ := Lib.hid htz
  have HB0 := Lib.hid hb0
  generalize (gWant f (gmd f p.length 0 (lvT p ws))).length = m at *
  generalize ws.length = len at *
  generalize p.length = n at *
  clear ho hset hset0 hr htz hb0 c0 hlt0 hR hR16 hgn h1 h2 h3 hgu hb2n hwt hs1 hs2 hckE hszw hn hf
  obtain ⟨d0, d1⟩ := HD.out w0 (Below.refl _ _)
  go_enter Tryz.func76, Tryz.ntmps76
  go_upto_region 1 with fail
  rw [← hw0]
  clear hw0
  go_wp2_with fail
  refine (HO.out w0 HB0.out).mono ?_
  rintro e w1 ⟨rfl, rfl⟩
  go_wp2_with fail
  refine (HO.out _ HB0.out).mono ?_
  rintro e w1 ⟨rfl, rfl⟩
  go_wp2_with fail
  refine (HNEW.out _).mono ?_
  clear d0 d1
  rintro e w2 ⟨g, rfl, C, h2, hC2, hb2⟩
  obtain ⟨d0, d1⟩ := HD.out w2 hb2
  have HB2 := Lib.hid (Below.step HB0.out hb2)
  have HC := Lib.hid (HOF.out w2 C g h2 HB2.out)
  have hin := h2.inside
  have HCW : Hid (∀ k, C k → w.heap.size ≤ k) := Lib.hid (fun k hk => by have := hC2 k hk; have := HB0.out.size; omega)
  clear h2 hC2 hb2 hin HO HNEW HOF
  go_wp2_with fail
  refine HC.out.mono ?_
  clear HC d0 d1
  rintro e w5 ⟨rfl, C', q1, q2, q3⟩
  have hb5 : Below w.heap.size w w5 := HB2.out.trans (q2.below HCW.out HB2.out.size)
  obtain ⟨w6, hw6⟩ : ∃ W, W = w5.alloc (.cells #[.int .u8 (t2 : Int), .int .u32 (u2 : Int)] 25) := ⟨_, rfl⟩
  have hb6 : Below w5.heap.size w5 w6 := by rw [hw6]; exact new_below _ _
  have hg6 : EdgeAt w6 w5.heap.size t2 u2 := by rw [hw6]; exact alloc_new _ _
  have HC6 := Lib.hid (HSZ.out w6 C' g (q1.below hb6) (HTZ.out.below (Below.step hb5 hb6)))
  have HB6 := Lib.hid (Below.step hb5 hb6)
  obtain ⟨e0, e1, -⟩ := hg6.cells
  clear q1 q2 q3 hb5 hb6 hg6 HSZ
  go_upto_region 5 with fail
  rw [← hw6]
  clear hw6
  go_wp2_with fail
  refine HC6.out.mono ?_
  clear HC6 e0 e1
  rintro e w7 ⟨rfl, hb7⟩
  have HE := Lib.hid (Below.step HB6.out hb7)
  clear hb7
  go_wp2_with fail
  go_ret2
  exact ⟨rfl, HE.out⟩
end Go.Proofs.YtdniokdgghpkbaaGreatDoor
namespace Go.Proofs.YtdniokdgghpkbaaGreatDoor
open Go.RowKit Sq StoreMath SetMath PermMath
set_option maxHeartbeats 8000000
set_option maxRecDepth 100000

def RetLE (w : World) (L : List Int) (e : Ending) (w' : World) : Prop := ∃ l, e = .returned (.tuple #[l, .int .u8 0]) ∧ Su.Own w' w.heap.size 3 l (Su.is L) ∧ Below w.heap.size w w'
def MzR (w0 : World) (L : List Int) (ov kv : Value) (wr : World) : Prop := ∃ k : Nat, 1 ≤ k ∧ k ≤ 6 ∧ kv = .int .u8 (k : Int) ∧ Su.Own wr w0.heap.size 3 ov (Su.is (L.take (k - 1))) ∧ Below w0.heap.size w0 wr
theorem msz_yes {w : World} {go : Nat} {p : List Int} (ho : Od.Ord w go p) {v : Value} {ws : List Nat} (hset : Su.IsSet w v (p.length : Int) ws) (hr : RightS p.length ws) (htz : Tz64 w) (_hn10 : p.length ≤ 10) : Calls Tryz.prog 29 #[Od.ptr go, v] w (RetLE w (szL p ws)) := by
  have hset0 := hset
  obtain ⟨A, c9, rfl, -⟩ := set_slice hset
  obtain ⟨w0, hw0⟩ : ∃ W, W = w.alloc (.cells #[.int .i64 (p.length : Int), .slice A ws.length c9] 58) := ⟨_, rfl⟩
  have hb0 : Below w.heap.size w w0 := by rw [hw0]; exact Su.below_new w _
  have c0 : w0.heap[w.heap.size]? = some (.cells #[.int .i64 (p.length : Int), .slice A ws.length c9] 58) := by rw [hw0]; exact alloc_new _ _
  have hlt0 : w.heap.size < w0.heap.size := by rw [hw0, Nd.alloc_size]; omega
  have HD : Hid (∀ W : World, Below w0.heap.size w0 W → W.cell? ⟨w.heap.size, 0, none⟩ = some (.int .i64 (p.length : Int)) ∧ W.cell? ⟨w.heap.size, 1, none⟩ = some (.slice A ws.length c9)) := Lib.hid (fun W hb => by
    have := (hb.block w.heap.size hlt0).trans c0
    exact ⟨block_cell this, block_cell this⟩)
  have HSZ := Lib.hid (fun (f : Nat) (hf : IsF f) W (hb : Below w.heap.size w W) => szof_yes (ho.below hb) (hset0.below hb) hr (htz.below hb) hf)
  have HB0 := Lib.hid hb0
  have HAT := Lib.hid (fun k (h : k < 5) => szL_at p ws h)
  have HLL := Lib.hid (szL_len p ws)
  generalize szL p ws = L at *
  generalize ws.length = len at *
  clear ho hset hset0 hr htz hb0 c0 hlt0
  go_enter Tryz.func29, Tryz.ntmps29
  go_upto_region 1 with fail
  rw [← hw0]
  clear hw0
  go_wp2_with fail
  go_loopw [6, 7] (MzR w0 L) (fun _ k _ => (6 - intOf k).toNat)
  case atStart => exact ⟨1, Nat.le_refl _, by decide, rfl, Su.Own.nil _ _ _, Below.refl _ _⟩
  case round =>
    obtain ⟨k, hk1, hk6, rfl, hown, hb⟩ := hrel
    by_cases hlt : k ≤ 5
    · have hf : IsF k := isF_iff.2 ⟨hk1, hlt⟩
      have hlt' : (k : Int) ≤ 5 := by omega
      have HS2 := Lib.hid (HSZ.out k hf wr (Below.step HB0.out hb))
      have hat := HAT.out (k - 1) (by omega)
      rw [show k - 1 + 1 = k by omega] at hat
      generalize (gWant k (gmd k p.length 0 (lvT p ws))).length = m at *
      obtain ⟨d0, d1⟩ := HD.out wr hb
      obtain ⟨k1, hk1e⟩ : ∃ k1, k1 = k + 1 := ⟨_, rfl⟩
      have i1 : (k : Int) + 1 = (k1 : Int) := by omega
      have i2 : IntKind.u8.wrap (k1 : Int) = (k1 : Int) := by rw [IntKind.wrap_u8]; omega
      have HP := Lib.hid (And.intro hk1 (And.intro hlt hk1e))
      have HX := Lib.hid (And.intro hown (And.intro hb hat))
      have hLN : (L.take (k - 1)).length ≤ 1000000 := by rw [List.length_take]; have := HLL.out; omega
      have HLN := Lib.hid hLN
      clear hk1e hf hown hb hat hk6 hk1 hlt hLN
      go_wp2_with fail
      refine HS2.out.mono ?_
      clear HS2 d0 d1
      rintro e w5 ⟨rfl, hb5⟩
      have HB5 := Lib.hid (Below.step HX.out.2.1 hb5)
      have HO5 := Lib.hid (HX.out.1.below hb5)
      clear hb5
      go_wp2_with (with_reducible show wpList _ _ _ (Oper.mk (some 29) (Op.call _) _ _ _ _ :: _) _ _; refine Hid.out ?_)
      refine Lib.hid ?_
      refine Su.wpList_appI w0 w5 rfl (.tmp 26) (.tmp 28) rfl _ (L.take (k - 1)) (m : Int) rfl rfl HO5.out HLN.out HB5.out ?_
      intro v' w' hown' hb'
      have HST : Hid (MzR w0 L v' (.int .u8 (k1 : Int)) w') := Lib.hid (by
        have hcat : L.take (k - 1) ++ [(m : Int)] = L.take (k1 - 1) := by
          have := SuPermMath.take_snoc HX.out.2.2
          rw [← this, show k - 1 + 1 = k1 - 1 by have := HP.out; omega]
        rw [hcat] at hown'
        exact ⟨k1, by have := HP.out; omega, by have := HP.out; omega, rfl, hown', hb'⟩)
      clear hown' hb'
      go_wp2_with fail
      go_roundw
      case rel => exact HST.out
      case measure => simp only [intOf]; have := HP.out.2; omega
    · have hk6e : k = 6 := by omega
      subst hk6e
      have hL : L.take (6 - 1) = L := List.take_of_length_le (by have := HLL.out; omega)
      rw [hL] at hown
      have HE : Hid (RetLE w L (.returned (.tuple #[u6, .int .u8 0])) wr) := Lib.hid ⟨u6, rfl, hown.mono HB0.out.size, Below.step HB0.out hb⟩
      clear hown hb hL
      go_wp2_with fail
      go_ret2
      exact HE.out
end Go.Proofs.YtdniokdgghpkbaaGreatDoor
namespace Go.Proofs.YtdniokdgghpkbaaGreatDoor
open Go.RowKit Sq StoreMath SetMath PermMath
set_option maxHeartbeats 4000000
set_option maxRecDepth 100000

theorem at_sees {w : World} {A : Option Addr} {xs : List Int} {k : Nat} {x : Int} (h : Su.Sees w A (Su.is xs)) (hk : xs[k]? = some x) : ∃ ad, A = some ad ∧ w.cell? (ad.add k) = some (.int .i64 x) := by
  obtain ⟨ad, h1, -, h2⟩ := h k _ (Su.is_at hk)
  exact ⟨ad, h1, h2⟩
theorem mints_yes (u v : Value) (xs : List Int) (w : World) (hu : Su.SI w u xs) (hv : Su.SI w v xs) (hl : xs.length ≤ 1000000) : Calls Tryz.prog 23 #[u, v] w (RetV w (.bool true)) := by
  obtain ⟨A, c, rfl, hc, hs⟩ := hu
  obtain ⟨B, d, rfl, hd, ht⟩ := hv
  rw [Su.is_len] at hc hd ⊢
  have HS := Lib.hid (And.intro hs ht)
  clear hs ht
  obtain ⟨n, hn⟩ : ∃ n, n = xs.length := ⟨_, rfl⟩
  rw [← hn] at hc hd hl ⊢
  have HN := Lib.hid hn
  clear hn
  go_enter Tryz.func23, Tryz.ntmps23
  go_wp2_with fail
  go_loopw [5] (fun i wr => ∃ k : Nat, k ≤ n ∧ i = .int .i64 (k : Int) ∧ Below w.heap.size w wr) (fun i _ => n - (intOf i).toNat)
  case atStart => exact ⟨0, Nat.zero_le _, rfl, Below.refl _ _⟩
  case round =>
    obtain ⟨k, hk, rfl, hb⟩ := hrel
    by_cases hlt : k < n
    · obtain ⟨x, hx⟩ : ∃ x, xs[k]? = some x := ⟨_, List.getElem?_eq_getElem (by rw [← HN.out]; exact hlt)⟩
      obtain ⟨ad, rfl, h1⟩ := at_sees (HS.out.1.below hb) hx
      obtain ⟨bd, rfl, h2⟩ := at_sees (HS.out.2.below hb) hx
      have HNX := Lib.hid (fun W (h : Below wr.heap.size wr W) => Below.step hb h)
      obtain ⟨k1, hk1⟩ : ∃ k1, k1 = k + 1 := ⟨_, rfl⟩
      have i1 : (k : Int) + 1 = (k1 : Int) := by omega
      have hm : n - k1 < n - k := by omega
      have HM := Lib.hid hm
      have hkn : k1 ≤ n := by omega
      clear hb hx hk1 hm
      go_wp2_with fail
      go_quiet (fail)
      go_wp2_with fail
      go_roundw
      case rel => exact ⟨k1, hkn, rfl, HNX.out _ (Nd.below_drewN (Below.refl _ _) _)⟩
      case measure => simp only [intOf, Int.toNat_natCast]; exact HM.out
    · have HE := Lib.hid hb
      clear hb
      go_wp2_with fail
      go_ret
      exact ⟨rfl, HE.out⟩
theorem gmd_one (f : Nat) (hf : IsF f) : gmd f 1 0 [true, true] = (if f = 2 ∨ f = 4 then .node 0 0 0 (.one 0) (.one 0) else .one (if f = 5 then 1 else 0)) := by
  show Gm f 0 (gEnd f 1 true) (gEnd f 1 true) = _
  by_cases h : f = 2 ∨ f = 4
  · rw [if_pos h]
    have h5 : f ≠ 5 := by omega
    have hE : gEnd f 1 true = .one 0 := by unfold gEnd; rw [if_pos rfl, if_neg h5]
    rw [hE]
    have := gm_node (f := f) hf (b := 0) (x := .one 0) (y := .one 0) ⟨fun e => by omega, fun _ => ⟨rfl, fun h => (by cases h)⟩, fun e => by omega, fun _ => ⟨fun h => (by cases h), fun _ _ _ _ _ h => (by cases h)⟩, fun e => by omega⟩
    rw [this, if_neg h5]
  · rw [if_neg h]
    rw [gm_skip (by unfold Gskip; rw [if_neg h])]
    unfold gEnd
    rw [if_pos rfl]
theorem rt_one : Rt [0] := ⟨by decide, by decide⟩
theorem lvT_one : lvT [0] [3] = [true, true] := by
  have hb : ∀ x : Nat, x < 2 → bitAt [3] x = true := fun x hx => by
    match x, hx with
    | 0, _ => rfl
    | 1, _ => rfl
  have h0 := lvT_at rt_one [3] (y := 0) (by decide)
  have h1 := lvT_at rt_one [3] (y := 1) (by decide)
  rw [hb _ (up_lt rt_one _)] at h0 h1
  have hl := lvT_len [0] [3]
  generalize lvT [0] [3] = L at *
  match L, hl with
  | [a, b], _ =>
    simp at h0 h1
    rw [h0, h1]
theorem want_end {f k : Nat} (_hf : IsF f) (hk : (f = 5 → k ≤ 1) ∧ (f ≠ 5 → k = 0)) : (gWant f (.one k)).length = 0 := by
  have hw : Gw f 1 (.one k) 0 := ⟨fun e => ⟨by omega, hk.1 e⟩, hk.2⟩
  rw [List.length_eq_zero_iff]
  refine List.eq_nil_iff_forall_not_mem.2 (fun s hs => ?_)
  obtain ⟨y, hy, -⟩ := (gwant_sub (n := 1) (by decide) hw s).1 hs
  cases hy
theorem want_node {f : Nat} (hf : IsF f) (h24 : f = 2 ∨ f = 4) : (gWant f (.node 0 0 0 (.one 0) (.one 0))).length = 1 := by
  have hw := gmd_wt (n := 1) hf 1 0 [true, true] rfl
  rw [gmd_one f hf, if_pos h24] at hw
  exact gwant_all (n := 1) hf (by decide) hw (K := [.node (gKey f 0) 0 0 (.one 0) (.one 0)]) (by simp) (fun y => by simp [gSub])
theorem szL_one : szL [0] [3] = [0, 1, 0, 1, 0] := by
  have h1 := gmd_one 1 (by unfold IsF; omega)
  have h2 := gmd_one 2 (by unfold IsF; omega)
  have h3 := gmd_one 3 (by unfold IsF; omega)
  have h4 := gmd_one 4 (by unfold IsF; omega)
  have h5 := gmd_one 5 (by unfold IsF; omega)
  unfold szL
  rw [lvT_one]
  simp only [List.map_cons, List.map_nil]
  show [((gWant 1 (gmd 1 1 0 [true, true])).length : Int), ((gWant 2 (gmd 2 1 0 [true, true])).length : Int), ((gWant 3 (gmd 3 1 0 [true, true])).length : Int), ((gWant 4 (gmd 4 1 0 [true, true])).length : Int), ((gWant 5 (gmd 5 1 0 [true, true])).length : Int)] = _
  rw [h1, h2, h3, h4, h5]
  simp only [reduceIte, Nat.reduceEqDiff, or_self, or_true, or_false]
  rw [want_end (f := 1) (by unfold IsF; omega) ⟨fun h => by omega, fun _ => rfl⟩, want_node (f := 2) (by unfold IsF; omega) (by omega), want_end (f := 3) (by unfold IsF; omega) ⟨fun h => by omega, fun _ => rfl⟩, want_node (f := 4) (by unfold IsF; omega) (by omega), want_end (f := 5) (by unfold IsF; omega) ⟨fun _ => Nat.le_refl _, fun h => absurd rfl h⟩]
  rfl
end Go.Proofs.YtdniokdgghpkbaaGreatDoor
namespace Go.Proofs.YtdniokdgghpkbaaGreatDoor
open Go.RowKit Sq StoreMath SetMath PermMath
set_option maxHeartbeats 4000000
set_option maxRecDepth 100000

theorem right_one : RightS 1 [3] := by
  refine ⟨by decide, rfl, fun w h => ?_, fun w h => ?_⟩
  · rw [List.mem_singleton] at h; subst h; decide
  · injection h with h; subst h; decide
theorem malive_any (w : World) (htz : Tz64 w) : Calls Tryz.prog 8 #[] w (RetV w (.bool true)) := by
  have HN : Hid (∀ W, Calls Tryz.prog 43 #[.int .i64 1] W (Od.OfOk W [0])) := Lib.hid (fun W => Od.new_yes W 1 (by decide))
  have HS : Hid (∀ W go s, Od.Ord W go [0] → Su.SU W s [3] → Tz64 W → Calls Tryz.prog 29 #[Od.ptr go, .agg #[.int .i64 1, s]] W (RetLE W [0, 1, 0, 1, 0])) := Lib.hid (fun W go s h1 h2 h3 => by
    have := msz_yes h1 (v := .agg #[.int .i64 1, s]) (ws := [3]) ⟨s, rfl, h2⟩ right_one h3 (by decide)
    rw [szL_one] at this
    exact this)
  have HI : Hid (∀ W u v, Su.SI W u [0, 1, 0, 1, 0] → Su.SI W v [0, 1, 0, 1, 0] → Calls Tryz.prog 23 #[u, v] W (RetV W (.bool true))) := Lib.hid (fun W u v h1 h2 => mints_yes u v _ W h1 h2 (by decide))
  have HTZ := Lib.hid htz
  clear htz
  go_enter Tryz.func8, Tryz.ntmps8
  go_wp2_with fail
  refine (HN.out _).mono ?_
  rintro e w1 ⟨g, rfl, hg, ho, hb1⟩
  obtain ⟨w2, hw2⟩ : ∃ W, W = w1.alloc (.cells #[.int .u64 3] 50) := ⟨_, rfl⟩
  have hb2 : Below w1.heap.size w1 w2 := by rw [hw2]; exact new_below _ _
  have hg2 : w2.heap[w1.heap.size]? = some (.cells #[.int .u64 3] 50) := by rw [hw2]; exact alloc_new _ _
  have hlt : w1.heap.size < w2.heap.size := by rw [hw2, Nd.alloc_size]; omega
  have hsu : Su.SU w2 (.slice (some ⟨w1.heap.size, 0, none⟩) 1 1) [3] := ⟨some ⟨w1.heap.size, 0, none⟩, 1, rfl, Nat.le_refl _, fun k u hu => by
    match k, hu with
    | 0, hu => exact ⟨_, rfl, hlt, by rw [Su.add_own, block_cell hg2]; exact hu⟩⟩
  have HS2 := Lib.hid (HS.out w2 g _ (ho.below hb2) hsu (HTZ.out.below (Below.step hb1 hb2)))
  have HB2 := Lib.hid (Below.step hb1 hb2)
  clear hg ho hb1 hb2 hg2 hlt hsu HS HN
  go_wp2_with fail
  rw [← hw2]
  clear hw2
  refine HS2.out.mono ?_
  clear HS2
  rintro e w3 ⟨l, rfl, hown, hb3⟩
  obtain ⟨w4, hw4⟩ : ∃ W, W = w3.alloc (.cells #[.int .i64 0, .int .i64 1, .int .i64 0, .int .i64 1, .int .i64 0] 3) := ⟨_, rfl⟩
  have hb4 : Below w3.heap.size w3 w4 := by rw [hw4]; exact new_below _ _
  have hg4 : w4.heap[w3.heap.size]? = some (.cells #[.int .i64 0, .int .i64 1, .int .i64 0, .int .i64 1, .int .i64 0] 3) := by rw [hw4]; exact alloc_new _ _
  have hlt : w3.heap.size < w4.heap.size := by rw [hw4, Nd.alloc_size]; omega
  have hsi : Su.SI w4 (.slice (some ⟨w3.heap.size, 0, none⟩) 5 5) [0, 1, 0, 1, 0] := ⟨some ⟨w3.heap.size, 0, none⟩, 5, rfl, Nat.le_refl _, fun k u hu => ⟨_, rfl, hlt, by rw [Su.add_own, block_cell hg4, ← hu]; simp [Su.is]⟩⟩
  have HI2 := Lib.hid (HI.out w4 l _ (hown.below hb4).sv hsi)
  have HB4 := Lib.hid (Below.step HB2.out (Below.step hb3 hb4))
  clear hown hb3 hb4 hg4 hlt hsi HI
  go_wp2_with fail
  rw [← hw4]
  clear hw4
  refine HI2.out.mono ?_
  rintro e w5 ⟨rfl, hb5⟩
  have HE := Lib.hid (Below.step HB4.out hb5)
  clear hb5
  go_wp2_with fail
  go_ret
  exact ⟨rfl, HE.out⟩
end Go.Proofs.YtdniokdgghpkbaaGreatDoor
