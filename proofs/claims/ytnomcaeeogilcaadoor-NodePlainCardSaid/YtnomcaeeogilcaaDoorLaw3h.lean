/- What the walk of the statement NodePlain takes. -/
import Derived.Test.YtnomcaeeogilcaaDoorAlive
import Derived.Test.YtnomcaeeogilcaaDoorOne
import Derived.Test.YtnomcaeeogilcaaDoorPlain
import Derived.Test.YtnomcaeeogilcaaDoorRPlain
import Derived.Test.YtnomcaeeogilcaaDoorLaw5
namespace Go.Proofs.YtnomcaeeogilcaaDoor
open Go.RowKit NodeMath

theorem pair_at {w : World} {g : Nat} {x y : Value} (h : w.heap[g]? = some (.cells #[x, y] 24)) : w.cell? ⟨g, 0, none⟩ = some x ∧ w.cell? ⟨g, 1, none⟩ = some y := ⟨block_cell h, block_cell h⟩
theorem CC.below {w w' : World} {p q r s : Addr} {x y z u : Value} (h : (w.cell? p = some x ∧ w.cell? q = some y) ∧ (w.cell? r = some z ∧ w.cell? s = some u)) (hb : Below w.heap.size w w') : (w'.cell? p = some x ∧ w'.cell? q = some y) ∧ (w'.cell? r = some z ∧ w'.cell? s = some u) :=
  ⟨⟨cell_below h.1.1 hb, cell_below h.1.2 hb⟩, cell_below h.2.1 hb, cell_below h.2.2 hb⟩
theorem eql_self (W : World) (t a : Int) : (binOp .eql 24 (.agg #[.int .u8 t, .int .u32 a]) (.agg #[.int .u8 t, .int .u32 a])).run Tryd.prog W = .ok (.bool true) W := by
  have h : ∀ d, (Op.eqFields (d + 1) #[.int .u8 t, .int .u32 a] #[.int .u8 t, .int .u32 a] (Tryd.prog.fieldsOf 24).toList).run Tryd.prog W = .ok ((t == t) && ((a == a) && true)) W := fun d => by
    simp only [Program.fieldsOf, Tryd.underlying24, Op.eqFields]
    exact eq_step (by decide) (part5 rfl) (part5 rfl) (run_equalIn_int W d 5 .u8 .u8 _ _ Tryd.underlying5) (eq_step (by decide) (part22 rfl) (part22 rfl) (run_equalIn_int W d 22 .u32 .u32 _ _ Tryd.underlying22) (Sem.run_pure _ _ _))
  rw [run_eql_struct, show (10000 : Nat) = 9998 + 2 from rfl]
  generalize 9998 = k
  rw [run_equalIn_agg W (k + 1) 24 _ _ (by kernel_rfl) (by kernel_rfl), h k]
  simp
end Go.Proofs.YtnomcaeeogilcaaDoor
