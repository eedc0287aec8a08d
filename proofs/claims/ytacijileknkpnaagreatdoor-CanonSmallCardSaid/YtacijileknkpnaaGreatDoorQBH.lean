/- BDDs: View and Right, the program's and the document's; no statement of the seat. -/
import Derived.Test.YtacijileknkpnaaGreatDoorKtx
import Derived.Test.YtacijileknkpnaaGreatDoorQBA
import Derived.Test.YtacijileknkpnaaGreatDoorMkY
import Derived.BigRegion
namespace Go.Proofs.YtacijileknkpnaaGreatDoor.FB
open Go.RowKit Sq ArenaMath IndexMath MarkMath
open StoreMath hiding Tr dec_short tx
open StoreMath.FB
set_option maxHeartbeats 4000000
set_option maxRecDepth 100000

def V8 (w : World) (t u : Nat) (W : World) : Prop := W.cell? ⟨w.heap.size, 0, none⟩ = some (.int .u8 (t : Int)) ∧ W.cell? ⟨w.heap.size, 1, none⟩ = some (.int .u32 (u : Int)) ∧
    W.cell? ⟨w.heap.size + 1, 0, none⟩ = some (.int .u8 0) ∧ W.cell? ⟨w.heap.size + 1, 1, none⟩ = some (.int .u32 0) ∧
    W.cell? ⟨w.heap.size + 1 + 1, 0, none⟩ = some (.int .u8 0) ∧ W.cell? ⟨w.heap.size + 1 + 1, 1, none⟩ = some (.int .u32 0) ∧
    (∀ i, W.frozen? ⟨w.heap.size + 1, i, none⟩ = false) ∧ (∀ i, W.frozen? ⟨w.heap.size + 1 + 1, i, none⟩ = false)
theorem V8.below {w W W' : World} {t u : Nat} (h : V8 w t u W) (hlt : w.heap.size + 1 + 1 < W.heap.size) (hb : Below W.heap.size W W') : V8 w t u W' :=
  ⟨Nd.cell_below h.1 hb, Nd.cell_below h.2.1 hb, Nd.cell_below h.2.2.1 hb, Nd.cell_below h.2.2.2.1 hb, Nd.cell_below h.2.2.2.2.1 hb, Nd.cell_below h.2.2.2.2.2.1 hb, fun i => (hb.frozen (by show w.heap.size + 1 < _; omega)).trans (h.2.2.2.2.2.2.1 i), fun i => (hb.frozen hlt).trans (h.2.2.2.2.2.2.2 i)⟩
end Go.Proofs.YtacijileknkpnaaGreatDoor.FB
namespace Go.Proofs.YtacijileknkpnaaGreatDoor.FB
open Go.RowKit Sq ArenaMath IndexMath MarkMath
open StoreMath hiding Tr dec_short tx
open StoreMath.FB
set_option maxHeartbeats 4000000
set_option maxRecDepth 100000

end Go.Proofs.YtacijileknkpnaaGreatDoor.FB
namespace Go.Proofs.YtacijileknkpnaaGreatDoor.FB
open Go.RowKit Sq ArenaMath IndexMath MarkMath
open StoreMath hiding Tr dec_short tx
open StoreMath.FB
set_option maxHeartbeats 4000000
set_option maxRecDepth 100000

theorem right_gen {w : World} {C : Nat → Prop} {g : Nat} {a : Ab} (h : Sto w C g a) (_htz : Tz64 w) (t u : Nat) (l : Int) (ht : t < 256) (hu4 : u < 4294967296) : Calls Tryz.prog 28 #[.pointer (some ⟨g, 0, none⟩), Nd.edgeV t u, .int .i64 l] w (RetV w (.bool (rgG 1 a t u l))) := by
  rw [← rg_link]
  exact bright_any h t u l ht hu4
end Go.Proofs.YtacijileknkpnaaGreatDoor.FB
namespace Go.Proofs.YtacijileknkpnaaGreatDoor.FB
open Go.RowKit Sq ArenaMath IndexMath MarkMath
open StoreMath hiding Tr dec_short tx
open StoreMath.FB
set_option maxHeartbeats 4000000
set_option maxRecDepth 100000

theorem find_err (a : Ab) (r : Rec) (h : (a.find r).2.2 ≠ 0) : (a.find r).2.1 = 0 := by
  revert h
  unfold Ab.find
  split
  · intro h; exact absurd rfl h
  · split
    · intro _; rfl
    · split
      · intro _; rfl
      · split <;> (intro h; exact absurd rfl h)
/-- Two boxed edges. -/
theorem BoxE2 (w : World) (t1 u1 t2 u2 : Nat) : ∃ W, W = (w.alloc (.cells #[.int .u8 (t1 : Int), .int .u32 (u1 : Int)] 25)).alloc (.cells #[.int .u8 (t2 : Int), .int .u32 (u2 : Int)] 25) ∧ Below w.heap.size w W ∧
    W.cell? ⟨w.heap.size, 0, none⟩ = some (.int .u8 (t1 : Int)) ∧ W.cell? ⟨w.heap.size, 1, none⟩ = some (.int .u32 (u1 : Int)) ∧
    W.cell? ⟨w.heap.size + 1, 0, none⟩ = some (.int .u8 (t2 : Int)) ∧ W.cell? ⟨w.heap.size + 1, 1, none⟩ = some (.int .u32 (u2 : Int)) := by
  obtain ⟨W2, e, hb, hs, h1, h2⟩ := Nd.New2 w (.cells #[.int .u8 (t1 : Int), .int .u32 (u1 : Int)] 25) (.cells #[.int .u8 (t2 : Int), .int .u32 (u2 : Int)] 25)
  exact ⟨W2, e, hb, block_cell h1, block_cell h1, block_cell h2, block_cell h2⟩
end Go.Proofs.YtacijileknkpnaaGreatDoor.FB
namespace Go.Proofs.YtacijileknkpnaaGreatDoor.FB
open Go.RowKit Sq ArenaMath IndexMath MarkMath
open StoreMath hiding Tr dec_short tx
open StoreMath.FB
set_option maxHeartbeats 4000000
set_option maxRecDepth 100000

end Go.Proofs.YtacijileknkpnaaGreatDoor.FB
namespace Go.Proofs.YtacijileknkpnaaGreatDoor.FB
open Go.RowKit Sq ArenaMath IndexMath MarkMath
open StoreMath hiding Tr dec_short tx
open StoreMath.FB
set_option maxHeartbeats 4000000
set_option maxRecDepth 100000

end Go.Proofs.YtacijileknkpnaaGreatDoor.FB
namespace Go.Proofs.YtacijileknkpnaaGreatDoor.FB
open Go.RowKit Sq ArenaMath IndexMath MarkMath
open StoreMath hiding Tr dec_short tx
open StoreMath.FB
set_option maxHeartbeats 4000000
set_option maxRecDepth 100000

end Go.Proofs.YtacijileknkpnaaGreatDoor.FB
namespace Go.Proofs.YtacijileknkpnaaGreatDoor.FB
open Go.RowKit Sq ArenaMath IndexMath MarkMath
open StoreMath hiding Tr dec_short tx
open StoreMath.FB
set_option maxHeartbeats 4000000
set_option maxRecDepth 100000

end Go.Proofs.YtacijileknkpnaaGreatDoor.FB
namespace Go.Proofs.YtacijileknkpnaaGreatDoor.FB
open Go.RowKit Sq ArenaMath IndexMath MarkMath
open StoreMath hiding Tr dec_short tx
open StoreMath.FB
set_option maxHeartbeats 4000000
set_option maxRecDepth 100000

end Go.Proofs.YtacijileknkpnaaGreatDoor.FB
