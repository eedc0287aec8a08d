/-
  DERIVED. GIVEN WITH THE SEED: THE CARDS: each row of YtacijileknkpnaaDoorRows.lean that lists a variable, with what it lists TIED to the program's text (the seventh form; the later family's looks); each row that meets fmt, with fmt's text TOLD by the authors' own Lean function (tested against real Go, not proved from fmt's source: count such statements apart). THE CARD IS WHAT COUNTS. Prove the row's statement (the work); the ties are given (YtacijileknkpnaaDoorTie.lean); close each card by the builder's one call (the guide's Derived/Test/ToyasCard.lean, 'card_holds'). Laid BY PROGRAM, IN A SANDBOX (cutbox-door.mjs). By AI agents, Wed Nov 11 2026. No macro, syntax, notation, axiom, sorry.
-/
import Derived.Test.YtacijileknkpnaaDoorRows
import GoSem.ClaimSeven
namespace Go.Proofs.YtacijileknkpnaaDoor
namespace Rows

/-- THE TIED CARD OF 'ramagelaw17.CanonHolds'. -/
def canonHoldsCard : Claim7 := { stood := { row := canonHoldsRow, standIns := [], harness := (true, "c3a46ff1e374d133d6f5c9eeba8366f29a00b899f2c752873f0be51e0d3848a7"), looks := false }, kinds := [], alts := [], laidByText := true, laidKinds := [.data], laidTests := true, laidLooks := .later }
def CanonHoldsCardSaid : Prop := Claim7.holds Tryd.pinned (.plain (OpenSpec.ofChange canonHoldsSpec)) canonHoldsCard

/-- THE TIED CARD OF 'ramagelaw17.CanonNil'. -/
def canonNilCard : Claim7 := { stood := { row := canonNilRow, standIns := [], harness := (true, "c3a46ff1e374d133d6f5c9eeba8366f29a00b899f2c752873f0be51e0d3848a7"), looks := false }, kinds := [], alts := [], laidByText := true, laidKinds := [.data], laidTests := true, laidLooks := .later }
def CanonNilCardSaid : Prop := Claim7.holds Tryd.pinned (.plain (OpenSpec.ofChange canonNilSpec)) canonNilCard

/-- THE SECOND FORM's CARD OF 'ramagelaw17.CanonHolds'. -/
def canonHoldsUptoCard : Claim7 := { stood := { row := canonHoldsUptoRow, standIns := [], harness := (true, "c3a46ff1e374d133d6f5c9eeba8366f29a00b899f2c752873f0be51e0d3848a7"), looks := false }, kinds := [], alts := [], laidByText := true, laidKinds := [.data], laidTests := true, laidLooks := .later }
def CanonHoldsUptoCardSaid : Prop := Claim7.holds Tryd.pinned (.plain (OpenSpec.upto canonHoldsSpec)) canonHoldsUptoCard

/-- THE SECOND FORM's CARD OF 'ramagelaw17.CanonNil'. -/
def canonNilUptoCard : Claim7 := { stood := { row := canonNilUptoRow, standIns := [], harness := (true, "c3a46ff1e374d133d6f5c9eeba8366f29a00b899f2c752873f0be51e0d3848a7"), looks := false }, kinds := [], alts := [], laidByText := true, laidKinds := [.data], laidTests := true, laidLooks := .later }
def CanonNilUptoCardSaid : Prop := Claim7.holds Tryd.pinned (.plain (OpenSpec.upto canonNilSpec)) canonNilUptoCard
end Rows
end Go.Proofs.YtacijileknkpnaaDoor
