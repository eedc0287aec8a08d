/- The listed table, and a start that fits: for cards of laws that reach it; no statement of the seat. -/
import Derived.Test.YtacijileknkpnaaDoorOpenD
import Derived.Test.YtacijileknkpnaaDoorMkY
import Derived.Test.YtacijileknkpnaaDoorCards
import Derived.Test.YtacijileknkpnaaDoorTie
import Derived.Lib.LaidTab
namespace Go.Proofs.YtacijileknkpnaaDoor
open Go.ChangeShapes Go.WideShapes Go.ChangeAt Go.RowKit StoreMath

/-- What all rows list. -/
def listed : List (String × DataW Unit) := [("math/bits.deBruijn64tab", Rows.laid_math_bits_deBruijn64tab)]
theorem gTz64 : Tryd.prog.globalNamed "math/bits.deBruijn64tab" = some 0 := by kernel_rfl
def tz64Tab : List Int := Go.Lib.deBruijn64tab.map fun n : Nat => (n : Int)
set_option maxRecDepth 100000 in
theorem listed_tz64 {W : World} (h : laidMetH Tryd.prog listed W) : Tz64 W := by
  have h2 : laidMet Tryd.prog listed W := h
  have e : listed = [("math/bits.deBruijn64tab", Lib.tabData .u8 tz64Tab)] := by kernel_rfl
  rw [e] at h2
  have h3 : Lib.TabIs Tryd.prog W "math/bits.deBruijn64tab" .u8 tz64Tab := Lib.tabIs_of_head (g := 0) (t := 140) (n := 64) gTz64 (by kernel_rfl) (by kernel_rfl) Tryd.underlying5 Tryd.cells5 (by kernel_rfl) h2
  intro j hj
  have := Lib.TabIs.cell h3 gTz64 j hj
  rw [this]
  have hall : ∀ j, j < 64 → tz64Tab.getD j 0 = ((Go.Lib.deBruijn64tab.getD j 0 : Nat) : Int) := by decide
  first | rw [hall j hj] | (simp only [List.getD_eq_getElem?_getD] at hall ⊢; rw [← hall j hj])

/-- A world for the witness: the settled one, the tables holding what their initialisers lay. -/
def putIn (cs : Array Value) : Obj → Obj
  | .cells _ t frozen => .cells cs t frozen
  | o => o
noncomputable def laidWorld (os : Os) : World :=
  { World.holding Tryd.prog os ⟨#[], #[], []⟩ with heap := ((World.holding Tryd.prog os ⟨#[], #[], []⟩).heap.modify 0 (putIn #[.int .u8 0, .int .u8 1, .int .u8 56, .int .u8 2, .int .u8 57, .int .u8 49, .int .u8 28, .int .u8 3, .int .u8 61, .int .u8 58, .int .u8 42, .int .u8 50, .int .u8 38, .int .u8 29, .int .u8 17, .int .u8 4, .int .u8 62, .int .u8 47, .int .u8 59, .int .u8 36, .int .u8 45, .int .u8 43, .int .u8 51, .int .u8 22, .int .u8 53, .int .u8 39, .int .u8 33, .int .u8 30, .int .u8 24, .int .u8 18, .int .u8 12, .int .u8 5, .int .u8 63, .int .u8 55, .int .u8 48, .int .u8 27, .int .u8 60, .int .u8 41, .int .u8 37, .int .u8 16, .int .u8 46, .int .u8 35, .int .u8 44, .int .u8 21, .int .u8 52, .int .u8 32, .int .u8 23, .int .u8 11, .int .u8 54, .int .u8 26, .int .u8 40, .int .u8 15, .int .u8 34, .int .u8 20, .int .u8 31, .int .u8 10, .int .u8 25, .int .u8 14, .int .u8 19, .int .u8 9, .int .u8 13, .int .u8 8, .int .u8 7, .int .u8 6])) }
end Go.Proofs.YtacijileknkpnaaDoor
