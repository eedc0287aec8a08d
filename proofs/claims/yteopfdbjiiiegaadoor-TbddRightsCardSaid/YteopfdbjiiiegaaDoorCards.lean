/-
  DERIVED. GIVEN WITH THE SEED: THE CARDS: each row of YteopfdbjiiiegaaDoorRows.lean that lists a variable, with what it lists TIED to the program's text (the seventh form; the later family's looks); each row that meets fmt, with fmt's text TOLD by the authors' own Lean function (tested against real Go, not proved from fmt's source: count such statements apart). THE CARD IS WHAT COUNTS. Prove the row's statement (the work); the ties are given (YteopfdbjiiiegaaDoorTie.lean); close each card by the builder's one call (the guide's Derived/Test/ToyasCard.lean, 'card_holds'). Laid BY PROGRAM, IN A SANDBOX (cutbox-door.mjs). By AI agents, Wed Nov 11 2026. No macro, syntax, notation, axiom, sorry.
-/
import Derived.Test.YteopfdbjiiiegaaDoorRows
import GoSem.ClaimSeven
namespace Go.Proofs.YteopfdbjiiiegaaDoor
namespace Rows

/-- THE TIED CARD OF 'ramagelaw16.TbddTerms'. -/
def tbddTermsCard : Claim7 := { stood := { row := tbddTermsRow, standIns := [], harness := (true, "ee68cacc7038e677746949a9e7a1ace5acd4226126ac65136f1ad635bcc4fbec"), looks := false }, kinds := [], alts := [], laidByText := true, laidKinds := [.data], laidTests := true, laidLooks := .later }
def TbddTermsCardSaid : Prop := Claim7.holds Tryd.pinned (.plain (OpenSpec.ofChange tbddTermsSpec)) tbddTermsCard

/-- THE TIED CARD OF 'ramagelaw16.TbddHalves'. -/
def tbddHalvesCard : Claim7 := { stood := { row := tbddHalvesRow, standIns := [], harness := (true, "ee68cacc7038e677746949a9e7a1ace5acd4226126ac65136f1ad635bcc4fbec"), looks := false }, kinds := [], alts := [], laidByText := true, laidKinds := [.data], laidTests := true, laidLooks := .later }
def TbddHalvesCardSaid : Prop := Claim7.holds Tryd.pinned (.plain (OpenSpec.ofChange tbddHalvesSpec)) tbddHalvesCard

/-- THE TIED CARD OF 'ramagelaw16.TbddRights'. -/
def tbddRightsCard : Claim7 := { stood := { row := tbddRightsRow, standIns := [], harness := (true, "ee68cacc7038e677746949a9e7a1ace5acd4226126ac65136f1ad635bcc4fbec"), looks := false }, kinds := [], alts := [], laidByText := true, laidKinds := [.data], laidTests := true, laidLooks := .later }
def TbddRightsCardSaid : Prop := Claim7.holds Tryd.pinned (.plain (OpenSpec.ofChange tbddRightsSpec)) tbddRightsCard

/-- THE TIED CARD OF 'ramagelaw16.TbddNil'. -/
def tbddNilCard : Claim7 := { stood := { row := tbddNilRow, standIns := [], harness := (true, "ee68cacc7038e677746949a9e7a1ace5acd4226126ac65136f1ad635bcc4fbec"), looks := false }, kinds := [], alts := [], laidByText := true, laidKinds := [.data], laidTests := true, laidLooks := .later }
def TbddNilCardSaid : Prop := Claim7.holds Tryd.pinned (.plain (OpenSpec.ofChange tbddNilSpec)) tbddNilCard

/-- THE SECOND FORM's CARD OF 'ramagelaw16.TbddTerms'. -/
def tbddTermsUptoCard : Claim7 := { stood := { row := tbddTermsUptoRow, standIns := [], harness := (true, "ee68cacc7038e677746949a9e7a1ace5acd4226126ac65136f1ad635bcc4fbec"), looks := false }, kinds := [], alts := [], laidByText := true, laidKinds := [.data], laidTests := true, laidLooks := .later }
def TbddTermsUptoCardSaid : Prop := Claim7.holds Tryd.pinned (.plain (OpenSpec.upto tbddTermsSpec)) tbddTermsUptoCard

/-- THE SECOND FORM's CARD OF 'ramagelaw16.TbddHalves'. -/
def tbddHalvesUptoCard : Claim7 := { stood := { row := tbddHalvesUptoRow, standIns := [], harness := (true, "ee68cacc7038e677746949a9e7a1ace5acd4226126ac65136f1ad635bcc4fbec"), looks := false }, kinds := [], alts := [], laidByText := true, laidKinds := [.data], laidTests := true, laidLooks := .later }
def TbddHalvesUptoCardSaid : Prop := Claim7.holds Tryd.pinned (.plain (OpenSpec.upto tbddHalvesSpec)) tbddHalvesUptoCard

/-- THE SECOND FORM's CARD OF 'ramagelaw16.TbddRights'. -/
def tbddRightsUptoCard : Claim7 := { stood := { row := tbddRightsUptoRow, standIns := [], harness := (true, "ee68cacc7038e677746949a9e7a1ace5acd4226126ac65136f1ad635bcc4fbec"), looks := false }, kinds := [], alts := [], laidByText := true, laidKinds := [.data], laidTests := true, laidLooks := .later }
def TbddRightsUptoCardSaid : Prop := Claim7.holds Tryd.pinned (.plain (OpenSpec.upto tbddRightsSpec)) tbddRightsUptoCard

/-- THE SECOND FORM's CARD OF 'ramagelaw16.TbddNil'. -/
def tbddNilUptoCard : Claim7 := { stood := { row := tbddNilUptoRow, standIns := [], harness := (true, "ee68cacc7038e677746949a9e7a1ace5acd4226126ac65136f1ad635bcc4fbec"), looks := false }, kinds := [], alts := [], laidByText := true, laidKinds := [.data], laidTests := true, laidLooks := .later }
def TbddNilUptoCardSaid : Prop := Claim7.holds Tryd.pinned (.plain (OpenSpec.upto tbddNilSpec)) tbddNilUptoCard
end Rows
end Go.Proofs.YteopfdbjiiiegaaDoor
