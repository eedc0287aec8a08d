/- A boxed record. -/
import Derived.Test.YtheeohklceieeaaDoorNdForms
namespace Go.Proofs.YtheeohklceieeaaDoor.Nd
open Go.RowKit NodeMath

theorem cell_below {w w' : World} {a : Addr} {v : Value} (h : w.cell? a = some v) (hb : Below w.heap.size w w') : w'.cell? a = some v := (hb.cell (World.block_lt_of_cell? w _ h)).trans h
/-- The cells of a boxed record. -/
def RecAt (g f t b lt la ht ha : Nat) (w : World) : Prop := w.cell? ⟨g, 0, none⟩ = some (.int .u8 (f : Int)) ∧ w.cell? ⟨g, 1, none⟩ = some (.int .u8 (t : Int)) ∧ w.cell? ⟨g, 2, none⟩ = some (.int .u8 (b : Int)) ∧ w.cell? ⟨g, 3, none⟩ = some (.int .u8 (lt : Int)) ∧ w.cell? ⟨g, 4, none⟩ = some (.int .u32 (la : Int)) ∧ w.cell? ⟨g, 5, none⟩ = some (.int .u8 (ht : Int)) ∧ w.cell? ⟨g, 6, none⟩ = some (.int .u32 (ha : Int))
theorem RecAt.below {g f t b lt la ht ha : Nat} {w w' : World} (h : RecAt g f t b lt la ht ha w) (hb : Below w.heap.size w w') : RecAt g f t b lt la ht ha w' :=
  ⟨cell_below h.1 hb, cell_below h.2.1 hb, cell_below h.2.2.1 hb, cell_below h.2.2.2.1 hb, cell_below h.2.2.2.2.1 hb, cell_below h.2.2.2.2.2.1 hb, cell_below h.2.2.2.2.2.2 hb⟩
theorem RecAt.new {f t b lt la ht ha : Nat} {w : World} {g : Nat} (h : w.heap[g]? = some (.cells #[.int .u8 (f : Int), .int .u8 (t : Int), .int .u8 (b : Int), .int .u8 (lt : Int), .int .u32 (la : Int), .int .u8 (ht : Int), .int .u32 (ha : Int)] 50)) : RecAt g f t b lt la ht ha w :=
  ⟨block_cell h, block_cell h, block_cell h, block_cell h, block_cell h, block_cell h, block_cell h⟩

end Go.Proofs.YtheeohklceieeaaDoor.Nd
