/-
  DERIVED. GIVEN WITH THE SEED: THE CARDS: each row of YtacijileknkpnaaGreatDoorRows.lean that lists a variable, with what it lists TIED to the program's text (the seventh form; the later family's looks); each row that meets fmt, with fmt's text TOLD by the authors' own Lean function (tested against real Go, not proved from fmt's source: count such statements apart). THE CARD IS WHAT COUNTS. Prove the row's statement (the work); the ties are given (YtacijileknkpnaaGreatDoorTie.lean); close each card by the builder's one call (the guide's Derived/Test/ToyasCard.lean, 'card_holds'). Laid BY PROGRAM, IN A SANDBOX (cutbox-door.mjs). By AI agents, Wed Nov 11 2026. No macro, syntax, notation, axiom, sorry.
-/
import Derived.Test.YtacijileknkpnaaGreatDoorRows
import GoSem.ClaimSeven
namespace Go.Proofs.YtacijileknkpnaaGreatDoor
namespace Rows

/-- THE TIED CARD OF 'ramagelaw17.CanonViews'. -/
def canonViewsCard : Claim7 := { stood := { row := canonViewsRow, standIns := [], harness := (true, "e2fc7d85264d5c43fceb2d6539a2abd0ec24603d7e23e8ad69a894760043dac2"), looks := false }, kinds := [], alts := [], laidByText := true, laidKinds := [.data], laidTests := true, laidLooks := .later }
def CanonViewsCardSaid : Prop := Claim7.holds Tryz.pinned (.plain (OpenSpec.ofChange canonViewsSpec)) canonViewsCard

/-- THE TIED CARD OF 'ramagelaw17.CanonCubes'. -/
def canonCubesCard : Claim7 := { stood := { row := canonCubesRow, standIns := [], harness := (true, "e2fc7d85264d5c43fceb2d6539a2abd0ec24603d7e23e8ad69a894760043dac2"), looks := false }, kinds := [], alts := [], laidByText := true, laidKinds := [.data], laidTests := true, laidLooks := .later }
def CanonCubesCardSaid : Prop := Claim7.holds Tryz.pinned (.plain (OpenSpec.ofChange canonCubesSpec)) canonCubesCard

/-- THE TIED CARD OF 'ramagelaw17.CanonSmall'. -/
def canonSmallCard : Claim7 := { stood := { row := canonSmallRow, standIns := [], harness := (true, "e2fc7d85264d5c43fceb2d6539a2abd0ec24603d7e23e8ad69a894760043dac2"), looks := false }, kinds := [], alts := [], laidByText := true, laidKinds := [.data], laidTests := true, laidLooks := .later }
def CanonSmallCardSaid : Prop := Claim7.holds Tryz.pinned (.plain (OpenSpec.ofChange canonSmallSpec)) canonSmallCard

/-- THE SECOND FORM's CARD OF 'ramagelaw17.CanonViews'. -/
def canonViewsUptoCard : Claim7 := { stood := { row := canonViewsUptoRow, standIns := [], harness := (true, "e2fc7d85264d5c43fceb2d6539a2abd0ec24603d7e23e8ad69a894760043dac2"), looks := false }, kinds := [], alts := [], laidByText := true, laidKinds := [.data], laidTests := true, laidLooks := .later }
def CanonViewsUptoCardSaid : Prop := Claim7.holds Tryz.pinned (.plain (OpenSpec.upto canonViewsSpec)) canonViewsUptoCard

/-- THE SECOND FORM's CARD OF 'ramagelaw17.CanonCubes'. -/
def canonCubesUptoCard : Claim7 := { stood := { row := canonCubesUptoRow, standIns := [], harness := (true, "e2fc7d85264d5c43fceb2d6539a2abd0ec24603d7e23e8ad69a894760043dac2"), looks := false }, kinds := [], alts := [], laidByText := true, laidKinds := [.data], laidTests := true, laidLooks := .later }
def CanonCubesUptoCardSaid : Prop := Claim7.holds Tryz.pinned (.plain (OpenSpec.upto canonCubesSpec)) canonCubesUptoCard

/-- THE SECOND FORM's CARD OF 'ramagelaw17.CanonSmall'. -/
def canonSmallUptoCard : Claim7 := { stood := { row := canonSmallUptoRow, standIns := [], harness := (true, "e2fc7d85264d5c43fceb2d6539a2abd0ec24603d7e23e8ad69a894760043dac2"), looks := false }, kinds := [], alts := [], laidByText := true, laidKinds := [.data], laidTests := true, laidLooks := .later }
def CanonSmallUptoCardSaid : Prop := Claim7.holds Tryz.pinned (.plain (OpenSpec.upto canonSmallSpec)) canonSmallUptoCard
end Rows
end Go.Proofs.YtacijileknkpnaaGreatDoor
