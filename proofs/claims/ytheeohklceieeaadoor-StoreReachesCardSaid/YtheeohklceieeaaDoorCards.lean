/-
  DERIVED. GIVEN WITH THE SEED: THE CARDS: each row of YtheeohklceieeaaDoorRows.lean that lists a variable, with what it lists TIED to the program's text (the seventh form; the later family's looks); each row that meets fmt, with fmt's text TOLD by the authors' own Lean function (tested against real Go, not proved from fmt's source: count such statements apart). THE CARD IS WHAT COUNTS. Prove the row's statement (the work); the ties are given (YtheeohklceieeaaDoorTie.lean); close each card by the builder's one call (the guide's Derived/Test/ToyasCard.lean, 'card_holds'). Laid BY PROGRAM, IN A SANDBOX (cutbox-door.mjs). By AI agents, Wed Nov 11 2026. No macro, syntax, notation, axiom, sorry.
-/
import Derived.Test.YtheeohklceieeaaDoorRows
import GoSem.ClaimSeven
namespace Go.Proofs.YtheeohklceieeaaDoor
namespace Rows

/-- THE TIED CARD OF 'ramagelaw11.StoreReaches'. -/
def storeReachesCard : Claim7 := { stood := { row := storeReachesRow, standIns := [], harness := (true, "7929098ffb5097a54d2467636e4e66614f90742e6bb627c1b13a43e22feb3fa9"), looks := false }, kinds := [], alts := [], laidByText := true, laidKinds := [.data], laidTests := true, laidLooks := .later }
def StoreReachesCardSaid : Prop := Claim7.holds Tryd.pinned (.plain (OpenSpec.ofChange storeReachesSpec)) storeReachesCard

/-- THE TIED CARD OF 'ramagelaw11.StoreSound'. -/
def storeSoundCard : Claim7 := { stood := { row := storeSoundRow, standIns := [], harness := (true, "7929098ffb5097a54d2467636e4e66614f90742e6bb627c1b13a43e22feb3fa9"), looks := false }, kinds := [], alts := [], laidByText := true, laidKinds := [.data], laidTests := true, laidLooks := .later }
def StoreSoundCardSaid : Prop := Claim7.holds Tryd.pinned (.plain (OpenSpec.ofChange storeSoundSpec)) storeSoundCard

/-- THE TIED CARD OF 'ramagelaw11.StoreNil'. -/
def storeNilCard : Claim7 := { stood := { row := storeNilRow, standIns := [], harness := (true, "7929098ffb5097a54d2467636e4e66614f90742e6bb627c1b13a43e22feb3fa9"), looks := false }, kinds := [], alts := [], laidByText := true, laidKinds := [.data], laidTests := true, laidLooks := .later }
def StoreNilCardSaid : Prop := Claim7.holds Tryd.pinned (.plain (OpenSpec.ofChange storeNilSpec)) storeNilCard

/-- THE SECOND FORM's CARD OF 'ramagelaw11.StoreReaches'. -/
def storeReachesUptoCard : Claim7 := { stood := { row := storeReachesUptoRow, standIns := [], harness := (true, "7929098ffb5097a54d2467636e4e66614f90742e6bb627c1b13a43e22feb3fa9"), looks := false }, kinds := [], alts := [], laidByText := true, laidKinds := [.data], laidTests := true, laidLooks := .later }
def StoreReachesUptoCardSaid : Prop := Claim7.holds Tryd.pinned (.plain (OpenSpec.upto storeReachesSpec)) storeReachesUptoCard

/-- THE SECOND FORM's CARD OF 'ramagelaw11.StoreSound'. -/
def storeSoundUptoCard : Claim7 := { stood := { row := storeSoundUptoRow, standIns := [], harness := (true, "7929098ffb5097a54d2467636e4e66614f90742e6bb627c1b13a43e22feb3fa9"), looks := false }, kinds := [], alts := [], laidByText := true, laidKinds := [.data], laidTests := true, laidLooks := .later }
def StoreSoundUptoCardSaid : Prop := Claim7.holds Tryd.pinned (.plain (OpenSpec.upto storeSoundSpec)) storeSoundUptoCard

/-- THE SECOND FORM's CARD OF 'ramagelaw11.StoreNil'. -/
def storeNilUptoCard : Claim7 := { stood := { row := storeNilUptoRow, standIns := [], harness := (true, "7929098ffb5097a54d2467636e4e66614f90742e6bb627c1b13a43e22feb3fa9"), looks := false }, kinds := [], alts := [], laidByText := true, laidKinds := [.data], laidTests := true, laidLooks := .later }
def StoreNilUptoCardSaid : Prop := Claim7.holds Tryd.pinned (.plain (OpenSpec.upto storeNilSpec)) storeNilUptoCard
end Rows
end Go.Proofs.YtheeohklceieeaaDoor
