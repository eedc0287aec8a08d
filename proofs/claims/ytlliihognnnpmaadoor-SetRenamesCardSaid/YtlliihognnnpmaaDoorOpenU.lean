/- The listed table by which math/bits finds the lowest bit of 64; no statement of the seat. -/
import Derived.Test.YtlliihognnnpmaaDoorOpen
import Derived.Test.YtlliihognnnpmaaDoorMem1
namespace Go.Proofs.YtlliihognnnpmaaDoor
open Go.ChangeShapes Go.WideShapes Go.ChangeAt Go.RowKit

theorem gTz64 : Tryd.prog.globalNamed "math/bits.deBruijn64tab" = some 0 := by kernel_rfl
def tz64Tab : List Int := Lib.deBruijn64tab.map fun n : Nat => (n : Int)
set_option maxRecDepth 100000 in
theorem listed_tz64 {W : World} (h : laidMetH Tryd.prog listed W) : Tz64 W := by
  have h1 : laidMet Tryd.prog listed W := h
  have h2 := h1.filter (fun x => x.1 == "math/bits.deBruijn64tab")
  have e : listed.filter (fun x => x.1 == "math/bits.deBruijn64tab") = [("math/bits.deBruijn64tab", Lib.tabData .u8 tz64Tab)] := by kernel_rfl
  rw [e] at h2
  have h3 : Lib.TabIs Tryd.prog W "math/bits.deBruijn64tab" .u8 tz64Tab := Lib.tabIs_of_head (g := 0) (t := 118) (n := 64) gTz64 (by kernel_rfl) (by kernel_rfl) Tryd.underlying5 Tryd.cells5 (by kernel_rfl) h2
  intro j hj
  have := Lib.TabIs.cell h3 gTz64 j hj
  rw [this]
  have hall : ∀ j, j < 64 → tz64Tab.getD j 0 = ((Lib.deBruijn64tab.getD j 0 : Nat) : Int) := by decide
  first | rw [hall j hj] | (simp only [List.getD_eq_getElem?_getD] at hall ⊢; rw [← hall j hj])
end Go.Proofs.YtlliihognnnpmaaDoor
