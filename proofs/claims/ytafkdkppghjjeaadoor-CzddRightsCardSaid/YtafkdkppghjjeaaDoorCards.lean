/-
  DERIVED. GIVEN WITH THE SEED: THE CARDS: each row of YtafkdkppghjjeaaDoorRows.lean that lists a variable, with what it lists TIED to the program's text (the seventh form; the later family's looks); each row that meets fmt, with fmt's text TOLD by the authors' own Lean function (tested against real Go, not proved from fmt's source: count such statements apart). THE CARD IS WHAT COUNTS. Prove the row's statement (the work); the ties are given (YtafkdkppghjjeaaDoorTie.lean); close each card by the builder's one call (the guide's Derived/Test/ToyasCard.lean, 'card_holds'). Laid BY PROGRAM, IN A SANDBOX (cutbox-door.mjs). By AI agents, Wed Nov 11 2026. No macro, syntax, notation, axiom, sorry.
-/
import Derived.Test.YtafkdkppghjjeaaDoorRows
import GoSem.ClaimSeven
namespace Go.Proofs.YtafkdkppghjjeaaDoor
namespace Rows

/-- THE TIED CARD OF 'ramagelaw15.CzddTerms'. -/
def czddTermsCard : Claim7 := { stood := { row := czddTermsRow, standIns := [], harness := (true, "744e9e65909bf36c9ad3fb449370bb857d9aee1874d7f30e1092309e55ff89df"), looks := false }, kinds := [], alts := [], laidByText := true, laidKinds := [.data], laidTests := true, laidLooks := .later }
def CzddTermsCardSaid : Prop := Claim7.holds Tryd.pinned (.plain (OpenSpec.ofChange czddTermsSpec)) czddTermsCard

/-- THE TIED CARD OF 'ramagelaw15.CzddHalves'. -/
def czddHalvesCard : Claim7 := { stood := { row := czddHalvesRow, standIns := [], harness := (true, "744e9e65909bf36c9ad3fb449370bb857d9aee1874d7f30e1092309e55ff89df"), looks := false }, kinds := [], alts := [], laidByText := true, laidKinds := [.data], laidTests := true, laidLooks := .later }
def CzddHalvesCardSaid : Prop := Claim7.holds Tryd.pinned (.plain (OpenSpec.ofChange czddHalvesSpec)) czddHalvesCard

/-- THE TIED CARD OF 'ramagelaw15.CzddRights'. -/
def czddRightsCard : Claim7 := { stood := { row := czddRightsRow, standIns := [], harness := (true, "744e9e65909bf36c9ad3fb449370bb857d9aee1874d7f30e1092309e55ff89df"), looks := false }, kinds := [], alts := [], laidByText := true, laidKinds := [.data], laidTests := true, laidLooks := .later }
def CzddRightsCardSaid : Prop := Claim7.holds Tryd.pinned (.plain (OpenSpec.ofChange czddRightsSpec)) czddRightsCard

/-- THE TIED CARD OF 'ramagelaw15.CzddNil'. -/
def czddNilCard : Claim7 := { stood := { row := czddNilRow, standIns := [], harness := (true, "744e9e65909bf36c9ad3fb449370bb857d9aee1874d7f30e1092309e55ff89df"), looks := false }, kinds := [], alts := [], laidByText := true, laidKinds := [.data], laidTests := true, laidLooks := .later }
def CzddNilCardSaid : Prop := Claim7.holds Tryd.pinned (.plain (OpenSpec.ofChange czddNilSpec)) czddNilCard

/-- THE SECOND FORM's CARD OF 'ramagelaw15.CzddTerms'. -/
def czddTermsUptoCard : Claim7 := { stood := { row := czddTermsUptoRow, standIns := [], harness := (true, "744e9e65909bf36c9ad3fb449370bb857d9aee1874d7f30e1092309e55ff89df"), looks := false }, kinds := [], alts := [], laidByText := true, laidKinds := [.data], laidTests := true, laidLooks := .later }
def CzddTermsUptoCardSaid : Prop := Claim7.holds Tryd.pinned (.plain (OpenSpec.upto czddTermsSpec)) czddTermsUptoCard

/-- THE SECOND FORM's CARD OF 'ramagelaw15.CzddHalves'. -/
def czddHalvesUptoCard : Claim7 := { stood := { row := czddHalvesUptoRow, standIns := [], harness := (true, "744e9e65909bf36c9ad3fb449370bb857d9aee1874d7f30e1092309e55ff89df"), looks := false }, kinds := [], alts := [], laidByText := true, laidKinds := [.data], laidTests := true, laidLooks := .later }
def CzddHalvesUptoCardSaid : Prop := Claim7.holds Tryd.pinned (.plain (OpenSpec.upto czddHalvesSpec)) czddHalvesUptoCard

/-- THE SECOND FORM's CARD OF 'ramagelaw15.CzddRights'. -/
def czddRightsUptoCard : Claim7 := { stood := { row := czddRightsUptoRow, standIns := [], harness := (true, "744e9e65909bf36c9ad3fb449370bb857d9aee1874d7f30e1092309e55ff89df"), looks := false }, kinds := [], alts := [], laidByText := true, laidKinds := [.data], laidTests := true, laidLooks := .later }
def CzddRightsUptoCardSaid : Prop := Claim7.holds Tryd.pinned (.plain (OpenSpec.upto czddRightsSpec)) czddRightsUptoCard

/-- THE SECOND FORM's CARD OF 'ramagelaw15.CzddNil'. -/
def czddNilUptoCard : Claim7 := { stood := { row := czddNilUptoRow, standIns := [], harness := (true, "744e9e65909bf36c9ad3fb449370bb857d9aee1874d7f30e1092309e55ff89df"), looks := false }, kinds := [], alts := [], laidByText := true, laidKinds := [.data], laidTests := true, laidLooks := .later }
def CzddNilUptoCardSaid : Prop := Claim7.holds Tryd.pinned (.plain (OpenSpec.upto czddNilSpec)) czddNilUptoCard
end Rows
end Go.Proofs.YtafkdkppghjjeaaDoor
