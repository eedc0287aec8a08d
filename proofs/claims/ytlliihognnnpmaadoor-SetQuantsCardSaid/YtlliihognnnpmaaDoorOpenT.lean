/- The listed table by which math/bits finds the lowest bit of up to 32; no statement of the seat. -/
import Derived.Test.YtlliihognnnpmaaDoorOpen
import Derived.Test.YtlliihognnnpmaaDoorJoin1
namespace Go.Proofs.YtlliihognnnpmaaDoor
open Go.ChangeShapes Go.WideShapes Go.ChangeAt Go.RowKit

theorem gTz32 : Tryd.prog.globalNamed "math/bits.deBruijn32tab" = some 2 := by kernel_rfl
def tz32Tab : List Int := Lib.deBruijn32tab.map fun n : Nat => (n : Int)
set_option maxRecDepth 100000 in
theorem listed_tz32 {W : World} (h : laidMetH Tryd.prog listed W) : Tz32 W := by
  have h1 : laidMet Tryd.prog listed W := h
  have h2 := h1.filter (fun x => x.1 == "math/bits.deBruijn32tab")
  have e : listed.filter (fun x => x.1 == "math/bits.deBruijn32tab") = [("math/bits.deBruijn32tab", Lib.tabData .u8 tz32Tab)] := by kernel_rfl
  rw [e] at h2
  have h3 : Lib.TabIs Tryd.prog W "math/bits.deBruijn32tab" .u8 tz32Tab := Lib.tabIs_of_head (g := 2) (t := 124) (n := 32) gTz32 (by kernel_rfl) (by kernel_rfl) Tryd.underlying5 Tryd.cells5 (by kernel_rfl) h2
  intro j hj
  have := Lib.TabIs.cell h3 gTz32 j hj
  rw [this]
  have hall : ∀ j, j < 32 → tz32Tab.getD j 0 = ((Lib.deBruijn32tab.getD j 0 : Nat) : Int) := by decide
  first | rw [hall j hj] | (simp only [List.getD_eq_getElem?_getD] at hall ⊢; rw [← hall j hj])
end Go.Proofs.YtlliihognnnpmaaDoor
