/-
  DERIVED. GIVEN WITH THE SEED: THE CARDS: each row of YtioeknbajphmpaaDoorRows.lean that lists a variable, with what it lists TIED to the program's text (the seventh form; the later family's looks); each row that meets fmt, with fmt's text TOLD by the authors' own Lean function (tested against real Go, not proved from fmt's source: count such statements apart). THE CARD IS WHAT COUNTS. Prove the row's statement (the work); the ties are given (YtioeknbajphmpaaDoorTie.lean); close each card by the builder's one call (the guide's Derived/Test/ToyasCard.lean, 'card_holds'). Laid BY PROGRAM, IN A SANDBOX (cutbox-door.mjs). By AI agents, Wed Nov 11 2026. No macro, syntax, notation, axiom, sorry.
-/
import Derived.Test.YtioeknbajphmpaaDoorRows
import GoSem.ClaimSeven
namespace Go.Proofs.YtioeknbajphmpaaDoor
namespace Rows

/-- THE TIED CARD OF 'ramagelaw14.CbddTerms'. -/
def cbddTermsCard : Claim7 := { stood := { row := cbddTermsRow, standIns := [], harness := (true, "104a3c993964c147cc29f1c7d6107d49f16b4dc5bfe17381bcbe8fe5f697dcab"), looks := false }, kinds := [], alts := [], laidByText := true, laidKinds := [.data], laidTests := true, laidLooks := .later }
def CbddTermsCardSaid : Prop := Claim7.holds Tryd.pinned (.plain (OpenSpec.ofChange cbddTermsSpec)) cbddTermsCard

/-- THE TIED CARD OF 'ramagelaw14.CbddHalves'. -/
def cbddHalvesCard : Claim7 := { stood := { row := cbddHalvesRow, standIns := [], harness := (true, "104a3c993964c147cc29f1c7d6107d49f16b4dc5bfe17381bcbe8fe5f697dcab"), looks := false }, kinds := [], alts := [], laidByText := true, laidKinds := [.data], laidTests := true, laidLooks := .later }
def CbddHalvesCardSaid : Prop := Claim7.holds Tryd.pinned (.plain (OpenSpec.ofChange cbddHalvesSpec)) cbddHalvesCard

/-- THE TIED CARD OF 'ramagelaw14.CbddRights'. -/
def cbddRightsCard : Claim7 := { stood := { row := cbddRightsRow, standIns := [], harness := (true, "104a3c993964c147cc29f1c7d6107d49f16b4dc5bfe17381bcbe8fe5f697dcab"), looks := false }, kinds := [], alts := [], laidByText := true, laidKinds := [.data], laidTests := true, laidLooks := .later }
def CbddRightsCardSaid : Prop := Claim7.holds Tryd.pinned (.plain (OpenSpec.ofChange cbddRightsSpec)) cbddRightsCard

/-- THE TIED CARD OF 'ramagelaw14.CbddNil'. -/
def cbddNilCard : Claim7 := { stood := { row := cbddNilRow, standIns := [], harness := (true, "104a3c993964c147cc29f1c7d6107d49f16b4dc5bfe17381bcbe8fe5f697dcab"), looks := false }, kinds := [], alts := [], laidByText := true, laidKinds := [.data], laidTests := true, laidLooks := .later }
def CbddNilCardSaid : Prop := Claim7.holds Tryd.pinned (.plain (OpenSpec.ofChange cbddNilSpec)) cbddNilCard

/-- THE SECOND FORM's CARD OF 'ramagelaw14.CbddTerms'. -/
def cbddTermsUptoCard : Claim7 := { stood := { row := cbddTermsUptoRow, standIns := [], harness := (true, "104a3c993964c147cc29f1c7d6107d49f16b4dc5bfe17381bcbe8fe5f697dcab"), looks := false }, kinds := [], alts := [], laidByText := true, laidKinds := [.data], laidTests := true, laidLooks := .later }
def CbddTermsUptoCardSaid : Prop := Claim7.holds Tryd.pinned (.plain (OpenSpec.upto cbddTermsSpec)) cbddTermsUptoCard

/-- THE SECOND FORM's CARD OF 'ramagelaw14.CbddHalves'. -/
def cbddHalvesUptoCard : Claim7 := { stood := { row := cbddHalvesUptoRow, standIns := [], harness := (true, "104a3c993964c147cc29f1c7d6107d49f16b4dc5bfe17381bcbe8fe5f697dcab"), looks := false }, kinds := [], alts := [], laidByText := true, laidKinds := [.data], laidTests := true, laidLooks := .later }
def CbddHalvesUptoCardSaid : Prop := Claim7.holds Tryd.pinned (.plain (OpenSpec.upto cbddHalvesSpec)) cbddHalvesUptoCard

/-- THE SECOND FORM's CARD OF 'ramagelaw14.CbddRights'. -/
def cbddRightsUptoCard : Claim7 := { stood := { row := cbddRightsUptoRow, standIns := [], harness := (true, "104a3c993964c147cc29f1c7d6107d49f16b4dc5bfe17381bcbe8fe5f697dcab"), looks := false }, kinds := [], alts := [], laidByText := true, laidKinds := [.data], laidTests := true, laidLooks := .later }
def CbddRightsUptoCardSaid : Prop := Claim7.holds Tryd.pinned (.plain (OpenSpec.upto cbddRightsSpec)) cbddRightsUptoCard

/-- THE SECOND FORM's CARD OF 'ramagelaw14.CbddNil'. -/
def cbddNilUptoCard : Claim7 := { stood := { row := cbddNilUptoRow, standIns := [], harness := (true, "104a3c993964c147cc29f1c7d6107d49f16b4dc5bfe17381bcbe8fe5f697dcab"), looks := false }, kinds := [], alts := [], laidByText := true, laidKinds := [.data], laidTests := true, laidLooks := .later }
def CbddNilUptoCardSaid : Prop := Claim7.holds Tryd.pinned (.plain (OpenSpec.upto cbddNilSpec)) cbddNilUptoCard
end Rows
end Go.Proofs.YtioeknbajphmpaaDoor
