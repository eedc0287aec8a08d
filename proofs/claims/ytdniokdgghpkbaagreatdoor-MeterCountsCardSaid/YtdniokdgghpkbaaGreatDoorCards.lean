/-
  DERIVED. GIVEN WITH THE SEED: THE CARDS: each row of YtdniokdgghpkbaaGreatDoorRows.lean that lists a variable, with what it lists TIED to the program's text (the seventh form; the later family's looks); each row that meets fmt, with fmt's text TOLD by the authors' own Lean function (tested against real Go, not proved from fmt's source: count such statements apart). THE CARD IS WHAT COUNTS. Prove the row's statement (the work); the ties are given (YtdniokdgghpkbaaGreatDoorTie.lean); close each card by the builder's one call (the guide's Derived/Test/ToyasCard.lean, 'card_holds'). Laid BY PROGRAM, IN A SANDBOX (cutbox-door.mjs). By AI agents, Wed Nov 11 2026. No macro, syntax, notation, axiom, sorry.
-/
import Derived.Test.YtdniokdgghpkbaaGreatDoorRows
import GoSem.ClaimSeven
namespace Go.Proofs.YtdniokdgghpkbaaGreatDoor
namespace Rows

/-- THE TIED CARD OF 'ramagelaw21.MeterWeighs'. -/
def meterWeighsCard : Claim7 := { stood := { row := meterWeighsRow, standIns := [], harness := (true, "9d16b9c82130ef66b29612d0e3dc933efa6ceed9ca4747b1acb2331101da6a49"), looks := false }, kinds := [], alts := [], laidByText := true, laidKinds := [.data], laidTests := true, laidLooks := .later }
def MeterWeighsCardSaid : Prop := Claim7.holds Tryz.pinned (.plain (OpenSpec.ofChange meterWeighsSpec)) meterWeighsCard

/-- THE TIED CARD OF 'ramagelaw21.MeterCounts'. -/
def meterCountsCard : Claim7 := { stood := { row := meterCountsRow, standIns := [], harness := (true, "9d16b9c82130ef66b29612d0e3dc933efa6ceed9ca4747b1acb2331101da6a49"), looks := false }, kinds := [], alts := [], laidByText := true, laidKinds := [.data], laidTests := true, laidLooks := .later }
def MeterCountsCardSaid : Prop := Claim7.holds Tryz.pinned (.plain (OpenSpec.ofChange meterCountsSpec)) meterCountsCard

/-- THE TIED CARD OF 'ramagelaw21.MeterSizes'. -/
def meterSizesCard : Claim7 := { stood := { row := meterSizesRow, standIns := [], harness := (true, "9d16b9c82130ef66b29612d0e3dc933efa6ceed9ca4747b1acb2331101da6a49"), looks := false }, kinds := [], alts := [], laidByText := true, laidKinds := [.data], laidTests := true, laidLooks := .later }
def MeterSizesCardSaid : Prop := Claim7.holds Tryz.pinned (.plain (OpenSpec.ofChange meterSizesSpec)) meterSizesCard

/-- THE TIED CARD OF 'ramagelaw21.MeterRules'. -/
def meterRulesCard : Claim7 := { stood := { row := meterRulesRow, standIns := [], harness := (true, "9d16b9c82130ef66b29612d0e3dc933efa6ceed9ca4747b1acb2331101da6a49"), looks := false }, kinds := [], alts := [], laidByText := true, laidKinds := [.data, .data], laidTests := true, laidLooks := .later }
def MeterRulesCardSaid : Prop := Claim7.holds Tryz.pinned (.plain (OpenSpec.ofChange meterRulesSpec)) meterRulesCard

/-- THE TIED CARD OF 'ramagelaw21.MeterNil'. -/
def meterNilCard : Claim7 := { stood := { row := meterNilRow, standIns := [], harness := (true, "9d16b9c82130ef66b29612d0e3dc933efa6ceed9ca4747b1acb2331101da6a49"), looks := false }, kinds := [], alts := [], laidByText := true, laidKinds := [.data], laidTests := true, laidLooks := .later }
def MeterNilCardSaid : Prop := Claim7.holds Tryz.pinned (.plain (OpenSpec.ofChange meterNilSpec)) meterNilCard

/-- THE SECOND FORM's CARD OF 'ramagelaw21.MeterWeighs'. -/
def meterWeighsUptoCard : Claim7 := { stood := { row := meterWeighsUptoRow, standIns := [], harness := (true, "9d16b9c82130ef66b29612d0e3dc933efa6ceed9ca4747b1acb2331101da6a49"), looks := false }, kinds := [], alts := [], laidByText := true, laidKinds := [.data], laidTests := true, laidLooks := .later }
def MeterWeighsUptoCardSaid : Prop := Claim7.holds Tryz.pinned (.plain (OpenSpec.upto meterWeighsSpec)) meterWeighsUptoCard

/-- THE SECOND FORM's CARD OF 'ramagelaw21.MeterCounts'. -/
def meterCountsUptoCard : Claim7 := { stood := { row := meterCountsUptoRow, standIns := [], harness := (true, "9d16b9c82130ef66b29612d0e3dc933efa6ceed9ca4747b1acb2331101da6a49"), looks := false }, kinds := [], alts := [], laidByText := true, laidKinds := [.data], laidTests := true, laidLooks := .later }
def MeterCountsUptoCardSaid : Prop := Claim7.holds Tryz.pinned (.plain (OpenSpec.upto meterCountsSpec)) meterCountsUptoCard

/-- THE SECOND FORM's CARD OF 'ramagelaw21.MeterSizes'. -/
def meterSizesUptoCard : Claim7 := { stood := { row := meterSizesUptoRow, standIns := [], harness := (true, "9d16b9c82130ef66b29612d0e3dc933efa6ceed9ca4747b1acb2331101da6a49"), looks := false }, kinds := [], alts := [], laidByText := true, laidKinds := [.data], laidTests := true, laidLooks := .later }
def MeterSizesUptoCardSaid : Prop := Claim7.holds Tryz.pinned (.plain (OpenSpec.upto meterSizesSpec)) meterSizesUptoCard

/-- THE SECOND FORM's CARD OF 'ramagelaw21.MeterRules'. -/
def meterRulesUptoCard : Claim7 := { stood := { row := meterRulesUptoRow, standIns := [], harness := (true, "9d16b9c82130ef66b29612d0e3dc933efa6ceed9ca4747b1acb2331101da6a49"), looks := false }, kinds := [], alts := [], laidByText := true, laidKinds := [.data, .data], laidTests := true, laidLooks := .later }
def MeterRulesUptoCardSaid : Prop := Claim7.holds Tryz.pinned (.plain (OpenSpec.upto meterRulesSpec)) meterRulesUptoCard

/-- THE SECOND FORM's CARD OF 'ramagelaw21.MeterNil'. -/
def meterNilUptoCard : Claim7 := { stood := { row := meterNilUptoRow, standIns := [], harness := (true, "9d16b9c82130ef66b29612d0e3dc933efa6ceed9ca4747b1acb2331101da6a49"), looks := false }, kinds := [], alts := [], laidByText := true, laidKinds := [.data], laidTests := true, laidLooks := .later }
def MeterNilUptoCardSaid : Prop := Claim7.holds Tryz.pinned (.plain (OpenSpec.upto meterNilSpec)) meterNilUptoCard
end Rows
end Go.Proofs.YtdniokdgghpkbaaGreatDoor
