/-
  DERIVED. GIVEN WITH THE SEED: THE CARDS: each row of YtnomcaeeogilcaaDoorRows.lean that lists a variable, with what it lists TIED to the program's text (the seventh form; the later family's looks); each row that meets fmt, with fmt's text TOLD by the authors' own Lean function (tested against real Go, not proved from fmt's source: count such statements apart). THE CARD IS WHAT COUNTS. Prove the row's statement (the work); the ties are given (YtnomcaeeogilcaaDoorTie.lean); close each card by the builder's one call (the guide's Derived/Test/ToyasCard.lean, 'card_holds'). Laid BY PROGRAM, IN A SANDBOX (cutbox-door.mjs). By AI agents, Wed Nov 11 2026. No macro, syntax, notation, axiom, sorry.
-/
import Derived.Test.YtnomcaeeogilcaaDoorRows
import GoSem.ClaimSeven
namespace Go.Proofs.YtnomcaeeogilcaaDoor
namespace Rows

/-- THE TIED CARD OF 'ramagelaw10.NodePlain'. -/
def nodePlainCard : Claim7 := { stood := { row := nodePlainRow, standIns := [], harness := (true, "c021008eb8997ce8298d388a4c403ba202a592f3393df28a4fdec9a3be3f5cde"), looks := false }, kinds := [], alts := [], laidByText := true, laidKinds := [.data, .data, .data], laidTests := true, laidLooks := .later }
def NodePlainCardSaid : Prop := Claim7.holds Tryd.pinned (.plain (OpenSpec.ofChange nodePlainSpec)) nodePlainCard

/-- THE TIED CARD OF 'ramagelaw10.NodeRight'. -/
def nodeRightCard : Claim7 := { stood := { row := nodeRightRow, standIns := [], harness := (true, "c021008eb8997ce8298d388a4c403ba202a592f3393df28a4fdec9a3be3f5cde"), looks := false }, kinds := [], alts := [], laidByText := true, laidKinds := [.data, .data, .data], laidTests := true, laidLooks := .later }
def NodeRightCardSaid : Prop := Claim7.holds Tryd.pinned (.plain (OpenSpec.ofChange nodeRightSpec)) nodeRightCard

/-- THE TIED CARD OF 'ramagelaw10.NodeHashes'. -/
def nodeHashesCard : Claim7 := { stood := { row := nodeHashesRow, standIns := [], harness := (true, "c021008eb8997ce8298d388a4c403ba202a592f3393df28a4fdec9a3be3f5cde"), looks := false }, kinds := [], alts := [], laidByText := true, laidKinds := [.data, .data, .data], laidTests := true, laidLooks := .later }
def NodeHashesCardSaid : Prop := Claim7.holds Tryd.pinned (.plain (OpenSpec.ofChange nodeHashesSpec)) nodeHashesCard

/-- THE SECOND FORM's CARD OF 'ramagelaw10.NodePlain'. -/
def nodePlainUptoCard : Claim7 := { stood := { row := nodePlainUptoRow, standIns := [], harness := (true, "c021008eb8997ce8298d388a4c403ba202a592f3393df28a4fdec9a3be3f5cde"), looks := false }, kinds := [], alts := [], laidByText := true, laidKinds := [.data, .data, .data], laidTests := true, laidLooks := .later }
def NodePlainUptoCardSaid : Prop := Claim7.holds Tryd.pinned (.plain (OpenSpec.upto nodePlainSpec)) nodePlainUptoCard

/-- THE SECOND FORM's CARD OF 'ramagelaw10.NodeRight'. -/
def nodeRightUptoCard : Claim7 := { stood := { row := nodeRightUptoRow, standIns := [], harness := (true, "c021008eb8997ce8298d388a4c403ba202a592f3393df28a4fdec9a3be3f5cde"), looks := false }, kinds := [], alts := [], laidByText := true, laidKinds := [.data, .data, .data], laidTests := true, laidLooks := .later }
def NodeRightUptoCardSaid : Prop := Claim7.holds Tryd.pinned (.plain (OpenSpec.upto nodeRightSpec)) nodeRightUptoCard

/-- THE SECOND FORM's CARD OF 'ramagelaw10.NodeHashes'. -/
def nodeHashesUptoCard : Claim7 := { stood := { row := nodeHashesUptoRow, standIns := [], harness := (true, "c021008eb8997ce8298d388a4c403ba202a592f3393df28a4fdec9a3be3f5cde"), looks := false }, kinds := [], alts := [], laidByText := true, laidKinds := [.data, .data, .data], laidTests := true, laidLooks := .later }
def NodeHashesUptoCardSaid : Prop := Claim7.holds Tryd.pinned (.plain (OpenSpec.upto nodeHashesSpec)) nodeHashesUptoCard
end Rows
end Go.Proofs.YtnomcaeeogilcaaDoor
