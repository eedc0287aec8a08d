/-
  NARROWER THAN 'FOR EVERY INPUT', by the rows' own cells (each row's printed sentence says how): MeterWeighs: laid · MeterCounts: laid · MeterSizes: laid · MeterRules: laid · MeterNil: laid.
  DERIVED. THE GIVEN ROWS OF THIS SEAT. 5 by the template 'for every input the law returns true; each argument reads behind the call as it read before'; 0 by the template 'total and deterministic' (their statements: YtdniokdgghpkbaaGreatDoorTotals.lean).
  GIVEN WITH THE SEED: the statements are not yours to turn. If you find one false, say at which input.
  Laid BY PROGRAM, IN A SANDBOX (cutbox-rows.mjs): the forced cells as the released guide's own fill.sh prints them over the translation 45ee5237268c6458… (all of the seat's roots in one cut). By AI agents, Wed Nov 11 2026. No macro, syntax, notation, axiom, sorry.
-/
import Derived.Test.YtdniokdgghpkbaaGreatDoorChecked
import GoSem.Claim
import GoSem.ClaimJoined
import GoSem.ClaimMapViews
import Derived.JoinedTies
import Derived.KernelRfl
namespace Go.Proofs.YtdniokdgghpkbaaGreatDoor
/- THE CELL 'sum', in the pinned program and in every row, IS THE sha256 OF THE DUMP (.gsa) THAT YtdniokdgghpkbaaGreatDoorProg.lean LOADS. Nothing in Lean hashes anything: it is a label: what it is worth is what the hold of that sum in a sandbox is worth. -/
noncomputable def Tryz.pinned : Pinned := { name := "ytdniokdgghpkbaagreatdoor", sum := "45ee5237268c64586222b8a3e75f7314e3a24b75fc67970d63eaca5d55402155", checked := Tryz.checked }
namespace Rows
def none {H : Type} : Left H := { results := [], args := [] }

/- WHAT THE LISTED PACKAGE-LEVEL VARIABLES READ AS WHEN THE CALL BEGINS. Each datum BY PROGRAM (the guide's laid-datum.mjs) off the statement by which the dump's own 'gosem.cut.vars' lays the variable. In a bare row this is a premise. The card (YtdniokdgghpkbaaGreatDoorCards.lean) ties it to the program's text. -/
def laid_math_bits_deBruijn64tab {H : Type} : DataW H := .agg [.lit (.int .u8 0), .lit (.int .u8 1), .lit (.int .u8 56), .lit (.int .u8 2), .lit (.int .u8 57), .lit (.int .u8 49), .lit (.int .u8 28), .lit (.int .u8 3), .lit (.int .u8 61), .lit (.int .u8 58), .lit (.int .u8 42), .lit (.int .u8 50), .lit (.int .u8 38), .lit (.int .u8 29), .lit (.int .u8 17), .lit (.int .u8 4), .lit (.int .u8 62), .lit (.int .u8 47), .lit (.int .u8 59), .lit (.int .u8 36), .lit (.int .u8 45), .lit (.int .u8 43), .lit (.int .u8 51), .lit (.int .u8 22), .lit (.int .u8 53), .lit (.int .u8 39), .lit (.int .u8 33), .lit (.int .u8 30), .lit (.int .u8 24), .lit (.int .u8 18), .lit (.int .u8 12), .lit (.int .u8 5), .lit (.int .u8 63), .lit (.int .u8 55), .lit (.int .u8 48), .lit (.int .u8 27), .lit (.int .u8 60), .lit (.int .u8 41), .lit (.int .u8 37), .lit (.int .u8 16), .lit (.int .u8 46), .lit (.int .u8 35), .lit (.int .u8 44), .lit (.int .u8 21), .lit (.int .u8 52), .lit (.int .u8 32), .lit (.int .u8 23), .lit (.int .u8 11), .lit (.int .u8 54), .lit (.int .u8 26), .lit (.int .u8 40), .lit (.int .u8 15), .lit (.int .u8 34), .lit (.int .u8 20), .lit (.int .u8 31), .lit (.int .u8 10), .lit (.int .u8 25), .lit (.int .u8 14), .lit (.int .u8 19), .lit (.int .u8 9), .lit (.int .u8 13), .lit (.int .u8 8), .lit (.int .u8 7), .lit (.int .u8 6)]
def laid_ramage_apply_alone {H : Type} : DataW H := .agg [.lit (.int .u8 240), .lit (.int .u8 204), .lit (.int .u8 170)]

/-- 'ramagelaw21.MeterWeighs': WHATEVER THE INPUT: true; the input reads as it did. -/
def meterWeighsSpec : ChangeSpec := { name := "meterWeighs", fn := fun _ => fun
  | [d1, d2, d3, d4, d5, d6] => { results := [.lit (.bool true)], args := [d1, d2, d3, d4, d5, d6] }
  | _ => none }
def meterWeighsRow : OpenClaim := { program := "ytdniokdgghpkbaagreatdoor", sum := "45ee5237268c64586222b8a3e75f7314e3a24b75fc67970d63eaca5d55402155", func := "ramage/ramagelaw21.MeterWeighs", spec := "meterWeighs", inPlace := ["math/bits.Add64", "math/bits.Sub64"], unfollowed := true, recurses := true, named := ["math/bits.deBruijn64tab"], apart := false, laid := [("math/bits.deBruijn64tab", laid_math_bits_deBruijn64tab)] }
def MeterWeighsSaid : Prop := meterWeighsRow.holds Tryz.pinned (OpenSpec.ofChange meterWeighsSpec)

/-- ITS FALSE NEIGHBOUR: 'it returns false'. Refute it at one input. -/
def meterWeighsWrong : ChangeSpec := { name := "meterWeighs", fn := fun _ => fun
  | [d1, d2, d3, d4, d5, d6] => { results := [.lit (.bool false)], args := [d1, d2, d3, d4, d5, d6] }
  | _ => none }
def MeterWeighsWrongFalsely : Prop := meterWeighsRow.holds Tryz.pinned (OpenSpec.ofChange meterWeighsWrong)

/-- 'ramagelaw21.MeterCounts': WHATEVER THE INPUT: true; the input reads as it did. -/
def meterCountsSpec : ChangeSpec := { name := "meterCounts", fn := fun _ => fun
  | [d1, d2, d3, d4] => { results := [.lit (.bool true)], args := [d1, d2, d3, d4] }
  | _ => none }
def meterCountsRow : OpenClaim := { program := "ytdniokdgghpkbaagreatdoor", sum := "45ee5237268c64586222b8a3e75f7314e3a24b75fc67970d63eaca5d55402155", func := "ramage/ramagelaw21.MeterCounts", spec := "meterCounts", inPlace := ["math/bits.Add64", "math/bits.Sub64"], unfollowed := true, recurses := true, named := ["math/bits.deBruijn64tab", "math/bits.divideError", "math/bits.overflowError"], apart := false, laid := [("math/bits.deBruijn64tab", laid_math_bits_deBruijn64tab)] }
def MeterCountsSaid : Prop := meterCountsRow.holds Tryz.pinned (OpenSpec.ofChange meterCountsSpec)

/-- ITS FALSE NEIGHBOUR: 'it returns false'. Refute it at one input. -/
def meterCountsWrong : ChangeSpec := { name := "meterCounts", fn := fun _ => fun
  | [d1, d2, d3, d4] => { results := [.lit (.bool false)], args := [d1, d2, d3, d4] }
  | _ => none }
def MeterCountsWrongFalsely : Prop := meterCountsRow.holds Tryz.pinned (OpenSpec.ofChange meterCountsWrong)

/-- 'ramagelaw21.MeterSizes': WHATEVER THE INPUT: true; the input reads as it did. -/
def meterSizesSpec : ChangeSpec := { name := "meterSizes", fn := fun _ => fun
  | [d1, d2] => { results := [.lit (.bool true)], args := [d1, d2] }
  | _ => none }
def meterSizesRow : OpenClaim := { program := "ytdniokdgghpkbaagreatdoor", sum := "45ee5237268c64586222b8a3e75f7314e3a24b75fc67970d63eaca5d55402155", func := "ramage/ramagelaw21.MeterSizes", spec := "meterSizes", unfollowed := true, recurses := true, named := ["math/bits.deBruijn64tab"], apart := false, laid := [("math/bits.deBruijn64tab", laid_math_bits_deBruijn64tab)] }
def MeterSizesSaid : Prop := meterSizesRow.holds Tryz.pinned (OpenSpec.ofChange meterSizesSpec)

/-- ITS FALSE NEIGHBOUR: 'it returns false'. Refute it at one input. -/
def meterSizesWrong : ChangeSpec := { name := "meterSizes", fn := fun _ => fun
  | [d1, d2] => { results := [.lit (.bool false)], args := [d1, d2] }
  | _ => none }
def MeterSizesWrongFalsely : Prop := meterSizesRow.holds Tryz.pinned (OpenSpec.ofChange meterSizesWrong)

/-- 'ramagelaw21.MeterRules': WHATEVER THE INPUT: true; the input reads as it did. -/
def meterRulesSpec : ChangeSpec := { name := "meterRules", fn := fun _ => fun
  | [d1, d2, d3, d4] => { results := [.lit (.bool true)], args := [d1, d2, d3, d4] }
  | _ => none }
def meterRulesRow : OpenClaim := { program := "ytdniokdgghpkbaagreatdoor", sum := "45ee5237268c64586222b8a3e75f7314e3a24b75fc67970d63eaca5d55402155", func := "ramage/ramagelaw21.MeterRules", spec := "meterRules", inPlace := ["math/bits.Add64", "math/bits.Sub64"], unfollowed := true, recurses := true, named := ["math/bits.deBruijn64tab", "ramage/apply.alone", "math/bits.divideError", "math/bits.overflowError"], apart := false, laid := [("math/bits.deBruijn64tab", laid_math_bits_deBruijn64tab), ("ramage/apply.alone", laid_ramage_apply_alone)] }
def MeterRulesSaid : Prop := meterRulesRow.holds Tryz.pinned (OpenSpec.ofChange meterRulesSpec)

/-- ITS FALSE NEIGHBOUR: 'it returns false'. Refute it at one input. -/
def meterRulesWrong : ChangeSpec := { name := "meterRules", fn := fun _ => fun
  | [d1, d2, d3, d4] => { results := [.lit (.bool false)], args := [d1, d2, d3, d4] }
  | _ => none }
def MeterRulesWrongFalsely : Prop := meterRulesRow.holds Tryz.pinned (OpenSpec.ofChange meterRulesWrong)

/-- 'ramagelaw21.MeterNil': WHATEVER THE INPUT: true; the input reads as it did. -/
def meterNilSpec : ChangeSpec := { name := "meterNil", fn := fun _ => fun
  | [d1, d2, d3, d4] => { results := [.lit (.bool true)], args := [d1, d2, d3, d4] }
  | _ => none }
def meterNilRow : OpenClaim := { program := "ytdniokdgghpkbaagreatdoor", sum := "45ee5237268c64586222b8a3e75f7314e3a24b75fc67970d63eaca5d55402155", func := "ramage/ramagelaw21.MeterNil", spec := "meterNil", inPlace := ["math/bits.Add64", "math/bits.Sub64"], unfollowed := true, recurses := true, named := ["math/bits.deBruijn64tab", "math/bits.divideError", "math/bits.overflowError"], apart := false, laid := [("math/bits.deBruijn64tab", laid_math_bits_deBruijn64tab)] }
def MeterNilSaid : Prop := meterNilRow.holds Tryz.pinned (OpenSpec.ofChange meterNilSpec)

/-- ITS FALSE NEIGHBOUR: 'it returns false'. Refute it at one input. -/
def meterNilWrong : ChangeSpec := { name := "meterNil", fn := fun _ => fun
  | [d1, d2, d3, d4] => { results := [.lit (.bool false)], args := [d1, d2, d3, d4] }
  | _ => none }
def MeterNilWrongFalsely : Prop := meterNilRow.holds Tryz.pinned (OpenSpec.ofChange meterNilWrong)

/- THE SECOND FORM. 'bulk': how many values and letters a reading holds, each counted each time it is reached (what is shared counts as often as it is met; a slice's spare places count too). A statement '..UptoSaid' is the law's where the arguments, and the package variables that the reading takes, are together of bulk at most 1048576: NARROWER than '..Said'. Prove '..Said' where nothing that the law and all that it calls make is longer than what came in: it says more and counts as full. Else prove '..UptoSaid'. A law counts once. -/
mutual
def uptoBulk {H : Type} : DataW H → Nat
  | .lit (.string bytes) => bytes.length + 1
  | .lit _ => 1
  | .nil => 1
  | .ptr d => uptoBulk d + 1
  | .slice elems spare => uptoBulkAll elems + uptoBulkAll spare + 1
  | .agg parts => uptoBulkAll parts + 1
  | .iface _ d => uptoBulk d + 1
  | .map entries => uptoBulkEntries entries + 1
  | .held _ => 1
def uptoBulkAll {H : Type} : List (DataW H) → Nat
  | [] => 0
  | d :: r => uptoBulk d + uptoBulkAll r
def uptoBulkEntries {H : Type} : List (Lit × DataW H) → Nat
  | [] => 0
  | x :: r => uptoBulkEntry x + uptoBulkEntries r
def uptoBulkEntry {H : Type} : Lit × DataW H → Nat
  | (.string bytes, d) => bytes.length + uptoBulk d + 1
  | (_, d) => uptoBulk d + 1
 end
def uptoSmall : (H : Type) → List (DataW H) → Bool := fun _ ds => decide (uptoBulkAll ds ≤ 1048576)
def OpenSpec.upto (s : _root_.Go.ChangeSpec) : _root_.Go.OpenSpec := { _root_.Go.OpenSpec.ofChange s with cond := some uptoSmall }

/-- 'ramagelaw21.MeterWeighs', WHERE WHAT IT READS IS OF BULK AT MOST 1048576: true; the input reads as it did. -/
def meterWeighsUptoRow : OpenClaim := { program := "ytdniokdgghpkbaagreatdoor", sum := "45ee5237268c64586222b8a3e75f7314e3a24b75fc67970d63eaca5d55402155", func := "ramage/ramagelaw21.MeterWeighs", spec := "meterWeighs", inPlace := ["math/bits.Add64", "math/bits.Sub64"], unfollowed := true, recurses := true, named := ["math/bits.deBruijn64tab"], apart := false, laid := [("math/bits.deBruijn64tab", laid_math_bits_deBruijn64tab)], narrowed := true }
def MeterWeighsUptoSaid : Prop := meterWeighsUptoRow.holds Tryz.pinned (OpenSpec.upto meterWeighsSpec)

/-- 'ramagelaw21.MeterCounts', WHERE WHAT IT READS IS OF BULK AT MOST 1048576: true; the input reads as it did. -/
def meterCountsUptoRow : OpenClaim := { program := "ytdniokdgghpkbaagreatdoor", sum := "45ee5237268c64586222b8a3e75f7314e3a24b75fc67970d63eaca5d55402155", func := "ramage/ramagelaw21.MeterCounts", spec := "meterCounts", inPlace := ["math/bits.Add64", "math/bits.Sub64"], unfollowed := true, recurses := true, named := ["math/bits.deBruijn64tab", "math/bits.divideError", "math/bits.overflowError"], apart := false, laid := [("math/bits.deBruijn64tab", laid_math_bits_deBruijn64tab)], narrowed := true }
def MeterCountsUptoSaid : Prop := meterCountsUptoRow.holds Tryz.pinned (OpenSpec.upto meterCountsSpec)

/-- 'ramagelaw21.MeterSizes', WHERE WHAT IT READS IS OF BULK AT MOST 1048576: true; the input reads as it did. -/
def meterSizesUptoRow : OpenClaim := { program := "ytdniokdgghpkbaagreatdoor", sum := "45ee5237268c64586222b8a3e75f7314e3a24b75fc67970d63eaca5d55402155", func := "ramage/ramagelaw21.MeterSizes", spec := "meterSizes", unfollowed := true, recurses := true, named := ["math/bits.deBruijn64tab"], apart := false, laid := [("math/bits.deBruijn64tab", laid_math_bits_deBruijn64tab)], narrowed := true }
def MeterSizesUptoSaid : Prop := meterSizesUptoRow.holds Tryz.pinned (OpenSpec.upto meterSizesSpec)

/-- 'ramagelaw21.MeterRules', WHERE WHAT IT READS IS OF BULK AT MOST 1048576: true; the input reads as it did. -/
def meterRulesUptoRow : OpenClaim := { program := "ytdniokdgghpkbaagreatdoor", sum := "45ee5237268c64586222b8a3e75f7314e3a24b75fc67970d63eaca5d55402155", func := "ramage/ramagelaw21.MeterRules", spec := "meterRules", inPlace := ["math/bits.Add64", "math/bits.Sub64"], unfollowed := true, recurses := true, named := ["math/bits.deBruijn64tab", "ramage/apply.alone", "math/bits.divideError", "math/bits.overflowError"], apart := false, laid := [("math/bits.deBruijn64tab", laid_math_bits_deBruijn64tab), ("ramage/apply.alone", laid_ramage_apply_alone)], narrowed := true }
def MeterRulesUptoSaid : Prop := meterRulesUptoRow.holds Tryz.pinned (OpenSpec.upto meterRulesSpec)

/-- 'ramagelaw21.MeterNil', WHERE WHAT IT READS IS OF BULK AT MOST 1048576: true; the input reads as it did. -/
def meterNilUptoRow : OpenClaim := { program := "ytdniokdgghpkbaagreatdoor", sum := "45ee5237268c64586222b8a3e75f7314e3a24b75fc67970d63eaca5d55402155", func := "ramage/ramagelaw21.MeterNil", spec := "meterNil", inPlace := ["math/bits.Add64", "math/bits.Sub64"], unfollowed := true, recurses := true, named := ["math/bits.deBruijn64tab", "math/bits.divideError", "math/bits.overflowError"], apart := false, laid := [("math/bits.deBruijn64tab", laid_math_bits_deBruijn64tab)], narrowed := true }
def MeterNilUptoSaid : Prop := meterNilUptoRow.holds Tryz.pinned (OpenSpec.upto meterNilSpec)

end Rows
end Go.Proofs.YtdniokdgghpkbaaGreatDoor
