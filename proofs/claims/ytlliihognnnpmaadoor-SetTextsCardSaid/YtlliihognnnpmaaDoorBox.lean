/- Boxes and cells of the call's own, the table of package set, and the call of made by functions that tell nothing, all. -/
import Derived.Test.YtlliihognnnpmaaDoorMade1
import Derived.Lib.LaidTab
import Derived.Lib.SmallJoins
namespace Go.Proofs.YtlliihognnnpmaaDoor
open Go.RowKit SetMath

theorem one_facts {w : World} {g : Nat} {a : Value} {t : TypeId} (h : w.heap[g]? = some (.cells #[a] t)) : w.cell? ⟨g, 0, none⟩ = some a ∧ w.frozen? ⟨g, 0, none⟩ = false := by
  refine ⟨?_, block_frozen h⟩; rw [block_cell h]; rfl
theorem block_lt {w : World} {g : Nat} {o : Obj} (h : w.heap[g]? = some o) : g < w.heap.size := (Array.getElem?_eq_some_iff.1 h).1
theorem block_below {w w' : World} {g : Nat} {o : Obj} (h : w.heap[g]? = some o) (hb : Below w.heap.size w w') : w'.heap[g]? = some o := (hb.block g (block_lt h)).trans h
theorem old_block {w : World} {g : Nat} {o : Obj} (h : w.heap[g]? = some o) (o' : Obj) : (w.alloc o').heap[g]? = some o := block_below h (below_new w o')
theorem New1 (w : World) (o1 : Obj) : ∃ W, W = w.alloc o1 ∧ Below w.heap.size w W ∧ W.heap.size = w.heap.size + 1 ∧ W.heap[w.heap.size]? = some o1 :=
  ⟨_, rfl, below_new _ _, alloc_size _ _, new_block _ _⟩
theorem New2 (w : World) (o1 o2 : Obj) : ∃ W, W = (w.alloc o1).alloc o2 ∧ Below w.heap.size w W ∧ W.heap.size = w.heap.size + 2 ∧ W.heap[w.heap.size]? = some o1 ∧ W.heap[w.heap.size + 1]? = some o2 := by
  obtain ⟨W, rfl, hb, hs, h1⟩ := New1 w o1
  refine ⟨_, rfl, Below.step hb (below_new _ _), by rw [alloc_size, hs], old_block h1 _, ?_⟩
  rw [← hs]; exact new_block _ _
theorem New3 (w : World) (o1 o2 o3 : Obj) : ∃ W, W = ((w.alloc o1).alloc o2).alloc o3 ∧ Below w.heap.size w W ∧ W.heap.size = w.heap.size + 3 ∧ W.heap[w.heap.size]? = some o1 ∧ W.heap[w.heap.size + 1]? = some o2 ∧ W.heap[w.heap.size + 2]? = some o3 := by
  obtain ⟨W, rfl, hb, hs, h1, h2⟩ := New2 w o1 o2
  refine ⟨_, rfl, Below.step hb (below_new _ _), by rw [alloc_size, hs], old_block h1 _, old_block h2 _, ?_⟩
  rw [← hs]; exact new_block _ _
theorem New4 (w : World) (o1 o2 o3 o4 : Obj) : ∃ W, W = (((w.alloc o1).alloc o2).alloc o3).alloc o4 ∧ Below w.heap.size w W ∧ W.heap.size = w.heap.size + 4 ∧ W.heap[w.heap.size]? = some o1 ∧ W.heap[w.heap.size + 1]? = some o2 ∧ W.heap[w.heap.size + 2]? = some o3 ∧ W.heap[w.heap.size + 3]? = some o4 := by
  obtain ⟨W, rfl, hb, hs, h1, h2, h3⟩ := New3 w o1 o2 o3
  refine ⟨_, rfl, Below.step hb (below_new _ _), by rw [alloc_size, hs], old_block h1 _, old_block h2 _, old_block h3 _, ?_⟩
  rw [← hs]; exact new_block _ _
theorem Own.beside2 {w : World} {base g' : Nat} {e : TypeId} {v c d : Value} {us : List Value} (h : Own w base e v us) (hg : ∀ g, v.ownBlock = some g → g' ≠ g) : Own ((w.setCell ⟨g', 0, none⟩ c).setCell ⟨g', 1, none⟩ d) base e v us := by
  rcases h.2 with ⟨hn, h0⟩ | ⟨g2, cap, cur, hv, hbb, hh, r⟩
  · exact ⟨h.1, .inl ⟨hn, h0⟩⟩
  · subst hv
    exact Own.beside (Own.beside h (hg _ rfl)) (hg _ rfl)
theorem Own.ne {w : World} {base g' : Nat} {e : TypeId} {v : Value} {us : List Value} (h : Own w base e v us) (hg : g' < base) : ∀ g, v.ownBlock = some g → g' ≠ g := by
  intro g hgg
  have := (World.ownsRow.lt h g hgg).1
  omega
theorem setPair_below {B : Nat} {a w : World} {g : Nat} (h : Below B a w) (hg : B ≤ g) (c d : Value) : Below B a ((w.setCell ⟨g, 0, none⟩ c).setCell ⟨g, 1, none⟩ d) := (h.setCell hg _).setCell hg _

/-- The table of package set: for each variable of a word the bits at which it is 1. -/
def onesN (v : Nat) : Nat := [0xaaaaaaaaaaaaaaaa, 0xcccccccccccccccc, 0xf0f0f0f0f0f0f0f0, 0xff00ff00ff00ff00, 0xffff0000ffff0000, 0xffffffff00000000].getD v 0
def onesTab : List Int := [12297829382473034410, 14757395258967641292, 17361641481138401520, 18374966859414961920, 18446462603027742720, 18446744069414584320]
def Ones (w : World) : Prop := Lib.TabIs Tryd.prog w "ramage/set.ones" .u64 onesTab
theorem gOnes : Tryd.prog.globalNamed "ramage/set.ones" = some 1 := by kernel_rfl
theorem Ones.below {w w' : World} (h : Ones w) (hb : Below w.heap.size w w') : Ones w' := Joins.tab_stays gOnes h hb (Nat.le_refl _)
theorem upto5 {n : Nat} (h : n < 6) : n = 0 ∨ n = 1 ∨ n = 2 ∨ n = 3 ∨ n = 4 ∨ n = 5 := by omega
theorem Ones.cell {w : World} (h : Ones w) {v : Nat} (hv : v < 6) : w.cell? ⟨1, v, none⟩ = some (.int .u64 (onesN v : Int)) := by
  have := Lib.TabIs.cell h gOnes v hv
  rw [this]
  rcases upto5 hv with rfl | rfl | rfl | rfl | rfl | rfl <;> rfl
theorem onesN_lt {v : Nat} (hv : v < 6) : onesN v < 2 ^ 64 := by
  rcases upto5 hv with rfl | rfl | rfl | rfl | rfl | rfl <;> decide
set_option maxRecDepth 10000 in
theorem onesN_bit {v j : Nat} (hv : v < 6) (hj : j < 64) : (onesN v).testBit j = j.testBit v := by
  have : ∀ v, v < 6 → ∀ j, j < 64 → (onesN v).testBit j = j.testBit v := by decide
  exact this v hv j hj


theorem enters67 : Enters 67 := enters_of Tryd.func67 (by kernel_rfl) rfl
theorem enters68 : Enters 68 := enters_of Tryd.func68 (by kernel_rfl) rfl
theorem enters71 : Enters 71 := enters_of Tryd.func71 (by kernel_rfl) rfl
theorem enters75 : Enters 75 := enters_of Tryd.func75 (by kernel_rfl) rfl
theorem enters77 : Enters 77 := enters_of Tryd.func77 (by kernel_rfl) rfl
theorem enters80 : Enters 80 := enters_of Tryd.func80 (by kernel_rfl) rfl
theorem enters82 : Enters 82 := enters_of Tryd.func82 (by kernel_rfl) rfl
theorem enters88 : Enters 88 := enters_of Tryd.func88 (by kernel_rfl) rfl
theorem enters104 : Enters 104 := enters_of Tryd.func104 (by kernel_rfl) rfl
end Go.Proofs.YtlliihognnnpmaaDoor
