/-
  NARROWER THAN 'FOR EVERY INPUT', by the rows' own cells (each row's printed sentence says how): TbddTerms: laid · TbddHalves: laid · TbddRights: laid · TbddNil: laid.
  DERIVED. THE GIVEN ROWS OF THIS SEAT. 4 by the template 'for every input the law returns true; each argument reads behind the call as it read before'; 0 by the template 'total and deterministic' (their statements: YteopfdbjiiiegaaDoorTotals.lean).
  GIVEN WITH THE SEED: the statements are not yours to turn. If you find one false, say at which input.
  Laid BY PROGRAM, IN A SANDBOX (cutbox-rows.mjs): the forced cells as the released guide's own fill.sh prints them over the translation 0c2ecceda6668db5… (all of the seat's roots in one cut). By AI agents, Wed Nov 11 2026. No macro, syntax, notation, axiom, sorry.
-/
import Derived.Test.YteopfdbjiiiegaaDoorChecked
import GoSem.Claim
import GoSem.ClaimJoined
import GoSem.ClaimMapViews
import Derived.JoinedTies
import Derived.KernelRfl
namespace Go.Proofs.YteopfdbjiiiegaaDoor
/- THE CELL 'sum', in the pinned program and in every row, IS THE sha256 OF THE DUMP (.gsa) THAT YteopfdbjiiiegaaDoorProg.lean LOADS. Nothing in Lean hashes anything: it is a label: what it is worth is what the hold of that sum in a sandbox is worth. -/
noncomputable def Tryd.pinned : Pinned := { name := "yteopfdbjiiiegaadoor", sum := "0c2ecceda6668db50a3ffe7ac0e5cd9be914a4a8508f346db4ad5bf26ef95e34", checked := Tryd.checked }
namespace Rows
def none {H : Type} : Left H := { results := [], args := [] }

/- WHAT THE LISTED PACKAGE-LEVEL VARIABLES READ AS WHEN THE CALL BEGINS. Each datum BY PROGRAM (the guide's laid-datum.mjs) off the statement by which the dump's own 'gosem.cut.vars' lays the variable. In a bare row this is a premise. The card (YteopfdbjiiiegaaDoorCards.lean) ties it to the program's text. -/
def laid_math_bits_deBruijn64tab {H : Type} : DataW H := .agg [.lit (.int .u8 0), .lit (.int .u8 1), .lit (.int .u8 56), .lit (.int .u8 2), .lit (.int .u8 57), .lit (.int .u8 49), .lit (.int .u8 28), .lit (.int .u8 3), .lit (.int .u8 61), .lit (.int .u8 58), .lit (.int .u8 42), .lit (.int .u8 50), .lit (.int .u8 38), .lit (.int .u8 29), .lit (.int .u8 17), .lit (.int .u8 4), .lit (.int .u8 62), .lit (.int .u8 47), .lit (.int .u8 59), .lit (.int .u8 36), .lit (.int .u8 45), .lit (.int .u8 43), .lit (.int .u8 51), .lit (.int .u8 22), .lit (.int .u8 53), .lit (.int .u8 39), .lit (.int .u8 33), .lit (.int .u8 30), .lit (.int .u8 24), .lit (.int .u8 18), .lit (.int .u8 12), .lit (.int .u8 5), .lit (.int .u8 63), .lit (.int .u8 55), .lit (.int .u8 48), .lit (.int .u8 27), .lit (.int .u8 60), .lit (.int .u8 41), .lit (.int .u8 37), .lit (.int .u8 16), .lit (.int .u8 46), .lit (.int .u8 35), .lit (.int .u8 44), .lit (.int .u8 21), .lit (.int .u8 52), .lit (.int .u8 32), .lit (.int .u8 23), .lit (.int .u8 11), .lit (.int .u8 54), .lit (.int .u8 26), .lit (.int .u8 40), .lit (.int .u8 15), .lit (.int .u8 34), .lit (.int .u8 20), .lit (.int .u8 31), .lit (.int .u8 10), .lit (.int .u8 25), .lit (.int .u8 14), .lit (.int .u8 19), .lit (.int .u8 9), .lit (.int .u8 13), .lit (.int .u8 8), .lit (.int .u8 7), .lit (.int .u8 6)]

/-- 'ramagelaw16.TbddTerms': WHATEVER THE INPUT: true; the input reads as it did. -/
def tbddTermsSpec : ChangeSpec := { name := "tbddTerms", fn := fun _ => fun
  | [d1, d2, d3] => { results := [.lit (.bool true)], args := [d1, d2, d3] }
  | _ => none }
def tbddTermsRow : OpenClaim := { program := "yteopfdbjiiiegaadoor", sum := "0c2ecceda6668db50a3ffe7ac0e5cd9be914a4a8508f346db4ad5bf26ef95e34", func := "ramage/ramagelaw16.TbddTerms", spec := "tbddTerms", unfollowed := true, recurses := true, named := ["math/bits.deBruijn64tab"], apart := false, laid := [("math/bits.deBruijn64tab", laid_math_bits_deBruijn64tab)] }
def TbddTermsSaid : Prop := tbddTermsRow.holds Tryd.pinned (OpenSpec.ofChange tbddTermsSpec)

/-- ITS FALSE NEIGHBOUR: 'it returns false'. Refute it at one input. -/
def tbddTermsWrong : ChangeSpec := { name := "tbddTerms", fn := fun _ => fun
  | [d1, d2, d3] => { results := [.lit (.bool false)], args := [d1, d2, d3] }
  | _ => none }
def TbddTermsWrongFalsely : Prop := tbddTermsRow.holds Tryd.pinned (OpenSpec.ofChange tbddTermsWrong)

/-- 'ramagelaw16.TbddHalves': WHATEVER THE INPUT: true; the input reads as it did. -/
def tbddHalvesSpec : ChangeSpec := { name := "tbddHalves", fn := fun _ => fun
  | [d1, d2] => { results := [.lit (.bool true)], args := [d1, d2] }
  | _ => none }
def tbddHalvesRow : OpenClaim := { program := "yteopfdbjiiiegaadoor", sum := "0c2ecceda6668db50a3ffe7ac0e5cd9be914a4a8508f346db4ad5bf26ef95e34", func := "ramage/ramagelaw16.TbddHalves", spec := "tbddHalves", unfollowed := true, recurses := true, named := ["math/bits.deBruijn64tab"], apart := false, laid := [("math/bits.deBruijn64tab", laid_math_bits_deBruijn64tab)] }
def TbddHalvesSaid : Prop := tbddHalvesRow.holds Tryd.pinned (OpenSpec.ofChange tbddHalvesSpec)

/-- ITS FALSE NEIGHBOUR: 'it returns false'. Refute it at one input. -/
def tbddHalvesWrong : ChangeSpec := { name := "tbddHalves", fn := fun _ => fun
  | [d1, d2] => { results := [.lit (.bool false)], args := [d1, d2] }
  | _ => none }
def TbddHalvesWrongFalsely : Prop := tbddHalvesRow.holds Tryd.pinned (OpenSpec.ofChange tbddHalvesWrong)

/-- 'ramagelaw16.TbddRights': WHATEVER THE INPUT: true; the input reads as it did. -/
def tbddRightsSpec : ChangeSpec := { name := "tbddRights", fn := fun _ => fun
  | [d1, d2, d3, d4] => { results := [.lit (.bool true)], args := [d1, d2, d3, d4] }
  | _ => none }
def tbddRightsRow : OpenClaim := { program := "yteopfdbjiiiegaadoor", sum := "0c2ecceda6668db50a3ffe7ac0e5cd9be914a4a8508f346db4ad5bf26ef95e34", func := "ramage/ramagelaw16.TbddRights", spec := "tbddRights", unfollowed := true, recurses := true, named := ["math/bits.deBruijn64tab"], apart := false, laid := [("math/bits.deBruijn64tab", laid_math_bits_deBruijn64tab)] }
def TbddRightsSaid : Prop := tbddRightsRow.holds Tryd.pinned (OpenSpec.ofChange tbddRightsSpec)

/-- ITS FALSE NEIGHBOUR: 'it returns false'. Refute it at one input. -/
def tbddRightsWrong : ChangeSpec := { name := "tbddRights", fn := fun _ => fun
  | [d1, d2, d3, d4] => { results := [.lit (.bool false)], args := [d1, d2, d3, d4] }
  | _ => none }
def TbddRightsWrongFalsely : Prop := tbddRightsRow.holds Tryd.pinned (OpenSpec.ofChange tbddRightsWrong)

/-- 'ramagelaw16.TbddNil': WHATEVER THE INPUT: true; the input reads as it did. -/
def tbddNilSpec : ChangeSpec := { name := "tbddNil", fn := fun _ => fun
  | [d1, d2, d3] => { results := [.lit (.bool true)], args := [d1, d2, d3] }
  | _ => none }
def tbddNilRow : OpenClaim := { program := "yteopfdbjiiiegaadoor", sum := "0c2ecceda6668db50a3ffe7ac0e5cd9be914a4a8508f346db4ad5bf26ef95e34", func := "ramage/ramagelaw16.TbddNil", spec := "tbddNil", unfollowed := true, recurses := true, named := ["math/bits.deBruijn64tab"], apart := false, laid := [("math/bits.deBruijn64tab", laid_math_bits_deBruijn64tab)] }
def TbddNilSaid : Prop := tbddNilRow.holds Tryd.pinned (OpenSpec.ofChange tbddNilSpec)

/-- ITS FALSE NEIGHBOUR: 'it returns false'. Refute it at one input. -/
def tbddNilWrong : ChangeSpec := { name := "tbddNil", fn := fun _ => fun
  | [d1, d2, d3] => { results := [.lit (.bool false)], args := [d1, d2, d3] }
  | _ => none }
def TbddNilWrongFalsely : Prop := tbddNilRow.holds Tryd.pinned (OpenSpec.ofChange tbddNilWrong)

/- THE SECOND FORM. 'bulk': how many values and letters a reading holds, each counted each time it is reached (what is shared counts as often as it is met; a slice's spare places count too). A statement '..UptoSaid' is the law's where the arguments, and the package variables that the reading takes, are together of bulk at most 1048576: NARROWER than '..Said'. Prove '..Said' where nothing that the law and all that it calls make is longer than what came in: it says more and counts as full. Else prove '..UptoSaid'. A law counts once. -/
mutual
def uptoBulk {H : Type} : DataW H → Nat
  | .lit (.string bytes) => bytes.length + 1
  | .lit _ => 1
  | .nil => 1
  | .ptr d => uptoBulk d + 1
  | .slice elems spare => uptoBulkAll elems + uptoBulkAll spare + 1
  | .agg parts => uptoBulkAll parts + 1
  | .iface _ d => uptoBulk d + 1
  | .map entries => uptoBulkEntries entries + 1
  | .held _ => 1
def uptoBulkAll {H : Type} : List (DataW H) → Nat
  | [] => 0
  | d :: r => uptoBulk d + uptoBulkAll r
def uptoBulkEntries {H : Type} : List (Lit × DataW H) → Nat
  | [] => 0
  | x :: r => uptoBulkEntry x + uptoBulkEntries r
def uptoBulkEntry {H : Type} : Lit × DataW H → Nat
  | (.string bytes, d) => bytes.length + uptoBulk d + 1
  | (_, d) => uptoBulk d + 1
 end
def uptoSmall : (H : Type) → List (DataW H) → Bool := fun _ ds => decide (uptoBulkAll ds ≤ 1048576)
def OpenSpec.upto (s : _root_.Go.ChangeSpec) : _root_.Go.OpenSpec := { _root_.Go.OpenSpec.ofChange s with cond := some uptoSmall }

/-- 'ramagelaw16.TbddTerms', WHERE WHAT IT READS IS OF BULK AT MOST 1048576: true; the input reads as it did. -/
def tbddTermsUptoRow : OpenClaim := { program := "yteopfdbjiiiegaadoor", sum := "0c2ecceda6668db50a3ffe7ac0e5cd9be914a4a8508f346db4ad5bf26ef95e34", func := "ramage/ramagelaw16.TbddTerms", spec := "tbddTerms", unfollowed := true, recurses := true, named := ["math/bits.deBruijn64tab"], apart := false, laid := [("math/bits.deBruijn64tab", laid_math_bits_deBruijn64tab)], narrowed := true }
def TbddTermsUptoSaid : Prop := tbddTermsUptoRow.holds Tryd.pinned (OpenSpec.upto tbddTermsSpec)

/-- 'ramagelaw16.TbddHalves', WHERE WHAT IT READS IS OF BULK AT MOST 1048576: true; the input reads as it did. -/
def tbddHalvesUptoRow : OpenClaim := { program := "yteopfdbjiiiegaadoor", sum := "0c2ecceda6668db50a3ffe7ac0e5cd9be914a4a8508f346db4ad5bf26ef95e34", func := "ramage/ramagelaw16.TbddHalves", spec := "tbddHalves", unfollowed := true, recurses := true, named := ["math/bits.deBruijn64tab"], apart := false, laid := [("math/bits.deBruijn64tab", laid_math_bits_deBruijn64tab)], narrowed := true }
def TbddHalvesUptoSaid : Prop := tbddHalvesUptoRow.holds Tryd.pinned (OpenSpec.upto tbddHalvesSpec)

/-- 'ramagelaw16.TbddRights', WHERE WHAT IT READS IS OF BULK AT MOST 1048576: true; the input reads as it did. -/
def tbddRightsUptoRow : OpenClaim := { program := "yteopfdbjiiiegaadoor", sum := "0c2ecceda6668db50a3ffe7ac0e5cd9be914a4a8508f346db4ad5bf26ef95e34", func := "ramage/ramagelaw16.TbddRights", spec := "tbddRights", unfollowed := true, recurses := true, named := ["math/bits.deBruijn64tab"], apart := false, laid := [("math/bits.deBruijn64tab", laid_math_bits_deBruijn64tab)], narrowed := true }
def TbddRightsUptoSaid : Prop := tbddRightsUptoRow.holds Tryd.pinned (OpenSpec.upto tbddRightsSpec)

/-- 'ramagelaw16.TbddNil', WHERE WHAT IT READS IS OF BULK AT MOST 1048576: true; the input reads as it did. -/
def tbddNilUptoRow : OpenClaim := { program := "yteopfdbjiiiegaadoor", sum := "0c2ecceda6668db50a3ffe7ac0e5cd9be914a4a8508f346db4ad5bf26ef95e34", func := "ramage/ramagelaw16.TbddNil", spec := "tbddNil", unfollowed := true, recurses := true, named := ["math/bits.deBruijn64tab"], apart := false, laid := [("math/bits.deBruijn64tab", laid_math_bits_deBruijn64tab)], narrowed := true }
def TbddNilUptoSaid : Prop := tbddNilUptoRow.holds Tryd.pinned (OpenSpec.upto tbddNilSpec)

end Rows
end Go.Proofs.YteopfdbjiiiegaaDoor
