/-
  NARROWER THAN 'FOR EVERY INPUT', by the rows' own cells (each row's printed sentence says how): SetRight: laid · SetMakes: laid · SetOps: laid · SetWith: laid · SetQuants: laid · SetRenames: laid · SetTexts: laid · SetRules: laid.
  DERIVED. THE GIVEN ROWS OF THIS SEAT. 8 by the template 'for every input the law returns true; each argument reads behind the call as it read before'; 0 by the template 'total and deterministic' (their statements: YtlliihognnnpmaaDoorTotals.lean).
  GIVEN WITH THE SEED: the statements are not yours to turn. If you find one false, say at which input.
  Laid BY PROGRAM, IN A SANDBOX (cutbox-rows.mjs): the forced cells as the released guide's own fill.sh prints them over the translation 3b91edd009131cb8… (all of the seat's roots in one cut). By AI agents, Wed Nov 11 2026. No macro, syntax, notation, axiom, sorry.
-/
import Derived.Test.YtlliihognnnpmaaDoorChecked
import GoSem.Claim
import GoSem.ClaimJoined
import GoSem.ClaimMapViews
import Derived.JoinedTies
import Derived.KernelRfl
namespace Go.Proofs.YtlliihognnnpmaaDoor
/- THE CELL 'sum', in the pinned program and in every row, IS THE sha256 OF THE DUMP (.gsa) THAT YtlliihognnnpmaaDoorProg.lean LOADS. Nothing in Lean hashes anything: it is a label: what it is worth is what the hold of that sum in a sandbox is worth. -/
noncomputable def Tryd.pinned : Pinned := { name := "ytlliihognnnpmaadoor", sum := "3b91edd009131cb80aedfed5991e51fffa28bd2e318c3d2ef5b9f7c5c9803b7f", checked := Tryd.checked }
namespace Rows
def none {H : Type} : Left H := { results := [], args := [] }

/- WHAT THE LISTED PACKAGE-LEVEL VARIABLES READ AS WHEN THE CALL BEGINS. Each datum BY PROGRAM (the guide's laid-datum.mjs) off the statement by which the dump's own 'gosem.cut.vars' lays the variable. In a bare row this is a premise. The card (YtlliihognnnpmaaDoorCards.lean) ties it to the program's text. -/
def laid_math_bits_deBruijn32tab {H : Type} : DataW H := .agg [.lit (.int .u8 0), .lit (.int .u8 1), .lit (.int .u8 28), .lit (.int .u8 2), .lit (.int .u8 29), .lit (.int .u8 14), .lit (.int .u8 24), .lit (.int .u8 3), .lit (.int .u8 30), .lit (.int .u8 22), .lit (.int .u8 20), .lit (.int .u8 15), .lit (.int .u8 25), .lit (.int .u8 17), .lit (.int .u8 4), .lit (.int .u8 8), .lit (.int .u8 31), .lit (.int .u8 27), .lit (.int .u8 13), .lit (.int .u8 23), .lit (.int .u8 21), .lit (.int .u8 19), .lit (.int .u8 16), .lit (.int .u8 7), .lit (.int .u8 26), .lit (.int .u8 12), .lit (.int .u8 18), .lit (.int .u8 6), .lit (.int .u8 11), .lit (.int .u8 5), .lit (.int .u8 10), .lit (.int .u8 9)]
def laid_math_bits_deBruijn64tab {H : Type} : DataW H := .agg [.lit (.int .u8 0), .lit (.int .u8 1), .lit (.int .u8 56), .lit (.int .u8 2), .lit (.int .u8 57), .lit (.int .u8 49), .lit (.int .u8 28), .lit (.int .u8 3), .lit (.int .u8 61), .lit (.int .u8 58), .lit (.int .u8 42), .lit (.int .u8 50), .lit (.int .u8 38), .lit (.int .u8 29), .lit (.int .u8 17), .lit (.int .u8 4), .lit (.int .u8 62), .lit (.int .u8 47), .lit (.int .u8 59), .lit (.int .u8 36), .lit (.int .u8 45), .lit (.int .u8 43), .lit (.int .u8 51), .lit (.int .u8 22), .lit (.int .u8 53), .lit (.int .u8 39), .lit (.int .u8 33), .lit (.int .u8 30), .lit (.int .u8 24), .lit (.int .u8 18), .lit (.int .u8 12), .lit (.int .u8 5), .lit (.int .u8 63), .lit (.int .u8 55), .lit (.int .u8 48), .lit (.int .u8 27), .lit (.int .u8 60), .lit (.int .u8 41), .lit (.int .u8 37), .lit (.int .u8 16), .lit (.int .u8 46), .lit (.int .u8 35), .lit (.int .u8 44), .lit (.int .u8 21), .lit (.int .u8 52), .lit (.int .u8 32), .lit (.int .u8 23), .lit (.int .u8 11), .lit (.int .u8 54), .lit (.int .u8 26), .lit (.int .u8 40), .lit (.int .u8 15), .lit (.int .u8 34), .lit (.int .u8 20), .lit (.int .u8 31), .lit (.int .u8 10), .lit (.int .u8 25), .lit (.int .u8 14), .lit (.int .u8 19), .lit (.int .u8 9), .lit (.int .u8 13), .lit (.int .u8 8), .lit (.int .u8 7), .lit (.int .u8 6)]
def laid_internal_strconv_uint64pow10 {H : Type} : DataW H := .agg [.lit (.int .u64 1), .lit (.int .u64 10), .lit (.int .u64 100), .lit (.int .u64 1000), .lit (.int .u64 10000), .lit (.int .u64 100000), .lit (.int .u64 1000000), .lit (.int .u64 10000000), .lit (.int .u64 100000000), .lit (.int .u64 1000000000), .lit (.int .u64 10000000000), .lit (.int .u64 100000000000), .lit (.int .u64 1000000000000), .lit (.int .u64 10000000000000), .lit (.int .u64 100000000000000), .lit (.int .u64 1000000000000000), .lit (.int .u64 10000000000000000), .lit (.int .u64 100000000000000000), .lit (.int .u64 1000000000000000000), .lit (.int .u64 10000000000000000000)]
def laid_ramage_set_ones {H : Type} : DataW H := .agg [.lit (.int .u64 12297829382473034410), .lit (.int .u64 14757395258967641292), .lit (.int .u64 17361641481138401520), .lit (.int .u64 18374966859414961920), .lit (.int .u64 18446462603027742720), .lit (.int .u64 18446744069414584320)]

/-- 'ramagelaw05.SetRight': WHATEVER THE INPUT: true; the input reads as it did. -/
def setRightSpec : ChangeSpec := { name := "setRight", fn := fun _ => fun
  | [d1, d2] => { results := [.lit (.bool true)], args := [d1, d2] }
  | _ => none }
def setRightRow : OpenClaim := { program := "ytlliihognnnpmaadoor", sum := "3b91edd009131cb80aedfed5991e51fffa28bd2e318c3d2ef5b9f7c5c9803b7f", func := "ramage/ramagelaw05.SetRight", spec := "setRight", inPlace := ["internal/abi.NoEscape"], unfollowed := true, recurses := true, named := ["ramage/set.ones", "internal/strconv.uint64pow10", "math/bits.deBruijn32tab", "math/bits.deBruijn64tab"], apart := false, laid := [("math/bits.deBruijn32tab", laid_math_bits_deBruijn32tab), ("math/bits.deBruijn64tab", laid_math_bits_deBruijn64tab), ("internal/strconv.uint64pow10", laid_internal_strconv_uint64pow10), ("ramage/set.ones", laid_ramage_set_ones)] }
def SetRightSaid : Prop := setRightRow.holds Tryd.pinned (OpenSpec.ofChange setRightSpec)

/-- ITS FALSE NEIGHBOUR: 'it returns false'. Refute it at one input. -/
def setRightWrong : ChangeSpec := { name := "setRight", fn := fun _ => fun
  | [d1, d2] => { results := [.lit (.bool false)], args := [d1, d2] }
  | _ => none }
def SetRightWrongFalsely : Prop := setRightRow.holds Tryd.pinned (OpenSpec.ofChange setRightWrong)

/-- 'ramagelaw05.SetMakes': WHATEVER THE INPUT: true; the input reads as it did. -/
def setMakesSpec : ChangeSpec := { name := "setMakes", fn := fun _ => fun
  | [d1, d2, d3] => { results := [.lit (.bool true)], args := [d1, d2, d3] }
  | _ => none }
def setMakesRow : OpenClaim := { program := "ytlliihognnnpmaadoor", sum := "3b91edd009131cb80aedfed5991e51fffa28bd2e318c3d2ef5b9f7c5c9803b7f", func := "ramage/ramagelaw05.SetMakes", spec := "setMakes", inPlace := ["internal/abi.NoEscape"], unfollowed := true, recurses := true, named := ["ramage/set.ones", "internal/strconv.uint64pow10", "math/bits.deBruijn32tab", "math/bits.deBruijn64tab"], apart := false, laid := [("math/bits.deBruijn32tab", laid_math_bits_deBruijn32tab), ("math/bits.deBruijn64tab", laid_math_bits_deBruijn64tab), ("internal/strconv.uint64pow10", laid_internal_strconv_uint64pow10), ("ramage/set.ones", laid_ramage_set_ones)] }
def SetMakesSaid : Prop := setMakesRow.holds Tryd.pinned (OpenSpec.ofChange setMakesSpec)

/-- ITS FALSE NEIGHBOUR: 'it returns false'. Refute it at one input. -/
def setMakesWrong : ChangeSpec := { name := "setMakes", fn := fun _ => fun
  | [d1, d2, d3] => { results := [.lit (.bool false)], args := [d1, d2, d3] }
  | _ => none }
def SetMakesWrongFalsely : Prop := setMakesRow.holds Tryd.pinned (OpenSpec.ofChange setMakesWrong)

/-- 'ramagelaw05.SetOps': WHATEVER THE INPUT: true; the input reads as it did. -/
def setOpsSpec : ChangeSpec := { name := "setOps", fn := fun _ => fun
  | [d1, d2, d3, d4] => { results := [.lit (.bool true)], args := [d1, d2, d3, d4] }
  | _ => none }
def setOpsRow : OpenClaim := { program := "ytlliihognnnpmaadoor", sum := "3b91edd009131cb80aedfed5991e51fffa28bd2e318c3d2ef5b9f7c5c9803b7f", func := "ramage/ramagelaw05.SetOps", spec := "setOps", inPlace := ["internal/abi.NoEscape"], unfollowed := true, recurses := true, named := ["ramage/set.ones", "internal/strconv.uint64pow10", "math/bits.deBruijn32tab", "math/bits.deBruijn64tab"], apart := false, laid := [("math/bits.deBruijn32tab", laid_math_bits_deBruijn32tab), ("math/bits.deBruijn64tab", laid_math_bits_deBruijn64tab), ("internal/strconv.uint64pow10", laid_internal_strconv_uint64pow10), ("ramage/set.ones", laid_ramage_set_ones)] }
def SetOpsSaid : Prop := setOpsRow.holds Tryd.pinned (OpenSpec.ofChange setOpsSpec)

/-- ITS FALSE NEIGHBOUR: 'it returns false'. Refute it at one input. -/
def setOpsWrong : ChangeSpec := { name := "setOps", fn := fun _ => fun
  | [d1, d2, d3, d4] => { results := [.lit (.bool false)], args := [d1, d2, d3, d4] }
  | _ => none }
def SetOpsWrongFalsely : Prop := setOpsRow.holds Tryd.pinned (OpenSpec.ofChange setOpsWrong)

/-- 'ramagelaw05.SetWith': WHATEVER THE INPUT: true; the input reads as it did. -/
def setWithSpec : ChangeSpec := { name := "setWith", fn := fun _ => fun
  | [d1, d2, d3, d4] => { results := [.lit (.bool true)], args := [d1, d2, d3, d4] }
  | _ => none }
def setWithRow : OpenClaim := { program := "ytlliihognnnpmaadoor", sum := "3b91edd009131cb80aedfed5991e51fffa28bd2e318c3d2ef5b9f7c5c9803b7f", func := "ramage/ramagelaw05.SetWith", spec := "setWith", inPlace := ["internal/abi.NoEscape"], unfollowed := true, recurses := true, named := ["ramage/set.ones", "internal/strconv.uint64pow10", "math/bits.deBruijn32tab", "math/bits.deBruijn64tab"], apart := false, laid := [("math/bits.deBruijn32tab", laid_math_bits_deBruijn32tab), ("math/bits.deBruijn64tab", laid_math_bits_deBruijn64tab), ("internal/strconv.uint64pow10", laid_internal_strconv_uint64pow10), ("ramage/set.ones", laid_ramage_set_ones)] }
def SetWithSaid : Prop := setWithRow.holds Tryd.pinned (OpenSpec.ofChange setWithSpec)

/-- ITS FALSE NEIGHBOUR: 'it returns false'. Refute it at one input. -/
def setWithWrong : ChangeSpec := { name := "setWith", fn := fun _ => fun
  | [d1, d2, d3, d4] => { results := [.lit (.bool false)], args := [d1, d2, d3, d4] }
  | _ => none }
def SetWithWrongFalsely : Prop := setWithRow.holds Tryd.pinned (OpenSpec.ofChange setWithWrong)

/-- 'ramagelaw05.SetQuants': WHATEVER THE INPUT: true; the input reads as it did. -/
def setQuantsSpec : ChangeSpec := { name := "setQuants", fn := fun _ => fun
  | [d1, d2] => { results := [.lit (.bool true)], args := [d1, d2] }
  | _ => none }
def setQuantsRow : OpenClaim := { program := "ytlliihognnnpmaadoor", sum := "3b91edd009131cb80aedfed5991e51fffa28bd2e318c3d2ef5b9f7c5c9803b7f", func := "ramage/ramagelaw05.SetQuants", spec := "setQuants", inPlace := ["internal/abi.NoEscape"], unfollowed := true, recurses := true, named := ["ramage/set.ones", "internal/strconv.uint64pow10", "math/bits.deBruijn32tab", "math/bits.deBruijn64tab"], apart := false, laid := [("math/bits.deBruijn32tab", laid_math_bits_deBruijn32tab), ("math/bits.deBruijn64tab", laid_math_bits_deBruijn64tab), ("internal/strconv.uint64pow10", laid_internal_strconv_uint64pow10), ("ramage/set.ones", laid_ramage_set_ones)] }
def SetQuantsSaid : Prop := setQuantsRow.holds Tryd.pinned (OpenSpec.ofChange setQuantsSpec)

/-- ITS FALSE NEIGHBOUR: 'it returns false'. Refute it at one input. -/
def setQuantsWrong : ChangeSpec := { name := "setQuants", fn := fun _ => fun
  | [d1, d2] => { results := [.lit (.bool false)], args := [d1, d2] }
  | _ => none }
def SetQuantsWrongFalsely : Prop := setQuantsRow.holds Tryd.pinned (OpenSpec.ofChange setQuantsWrong)

/-- 'ramagelaw05.SetRenames': WHATEVER THE INPUT: true; the input reads as it did. -/
def setRenamesSpec : ChangeSpec := { name := "setRenames", fn := fun _ => fun
  | [d1, d2] => { results := [.lit (.bool true)], args := [d1, d2] }
  | _ => none }
def setRenamesRow : OpenClaim := { program := "ytlliihognnnpmaadoor", sum := "3b91edd009131cb80aedfed5991e51fffa28bd2e318c3d2ef5b9f7c5c9803b7f", func := "ramage/ramagelaw05.SetRenames", spec := "setRenames", inPlace := ["internal/abi.NoEscape"], unfollowed := true, recurses := true, named := ["ramage/set.ones", "internal/strconv.uint64pow10", "math/bits.deBruijn32tab", "math/bits.deBruijn64tab"], apart := false, laid := [("math/bits.deBruijn32tab", laid_math_bits_deBruijn32tab), ("math/bits.deBruijn64tab", laid_math_bits_deBruijn64tab), ("internal/strconv.uint64pow10", laid_internal_strconv_uint64pow10), ("ramage/set.ones", laid_ramage_set_ones)] }
def SetRenamesSaid : Prop := setRenamesRow.holds Tryd.pinned (OpenSpec.ofChange setRenamesSpec)

/-- ITS FALSE NEIGHBOUR: 'it returns false'. Refute it at one input. -/
def setRenamesWrong : ChangeSpec := { name := "setRenames", fn := fun _ => fun
  | [d1, d2] => { results := [.lit (.bool false)], args := [d1, d2] }
  | _ => none }
def SetRenamesWrongFalsely : Prop := setRenamesRow.holds Tryd.pinned (OpenSpec.ofChange setRenamesWrong)

/-- 'ramagelaw05.SetTexts': WHATEVER THE INPUT: true; the input reads as it did. -/
def setTextsSpec : ChangeSpec := { name := "setTexts", fn := fun _ => fun
  | [d1, d2, d3] => { results := [.lit (.bool true)], args := [d1, d2, d3] }
  | _ => none }
def setTextsRow : OpenClaim := { program := "ytlliihognnnpmaadoor", sum := "3b91edd009131cb80aedfed5991e51fffa28bd2e318c3d2ef5b9f7c5c9803b7f", func := "ramage/ramagelaw05.SetTexts", spec := "setTexts", inPlace := ["internal/abi.NoEscape", "internal/bytealg.IndexByteString", "internal/bytealg.IndexString"], unfollowed := true, recurses := true, named := ["ramage/set.ones", "internal/strconv.uint64pow10", "math/bits.deBruijn32tab", "math/bits.deBruijn64tab", "internal/bytealg.MaxLen"], apart := false, laid := [("math/bits.deBruijn32tab", laid_math_bits_deBruijn32tab), ("math/bits.deBruijn64tab", laid_math_bits_deBruijn64tab), ("internal/strconv.uint64pow10", laid_internal_strconv_uint64pow10), ("ramage/set.ones", laid_ramage_set_ones)] }
def SetTextsSaid : Prop := setTextsRow.holds Tryd.pinned (OpenSpec.ofChange setTextsSpec)

/-- ITS FALSE NEIGHBOUR: 'it returns false'. Refute it at one input. -/
def setTextsWrong : ChangeSpec := { name := "setTexts", fn := fun _ => fun
  | [d1, d2, d3] => { results := [.lit (.bool false)], args := [d1, d2, d3] }
  | _ => none }
def SetTextsWrongFalsely : Prop := setTextsRow.holds Tryd.pinned (OpenSpec.ofChange setTextsWrong)

/-- 'ramagelaw05.SetRules': WHATEVER THE INPUT: true; the input reads as it did. -/
def setRulesSpec : ChangeSpec := { name := "setRules", fn := fun _ => fun
  | [d1, d2, d3, d4] => { results := [.lit (.bool true)], args := [d1, d2, d3, d4] }
  | _ => none }
def setRulesRow : OpenClaim := { program := "ytlliihognnnpmaadoor", sum := "3b91edd009131cb80aedfed5991e51fffa28bd2e318c3d2ef5b9f7c5c9803b7f", func := "ramage/ramagelaw05.SetRules", spec := "setRules", inPlace := ["internal/abi.NoEscape"], unfollowed := true, recurses := true, named := ["ramage/set.ones", "internal/strconv.uint64pow10", "math/bits.deBruijn32tab", "math/bits.deBruijn64tab"], apart := false, laid := [("math/bits.deBruijn32tab", laid_math_bits_deBruijn32tab), ("math/bits.deBruijn64tab", laid_math_bits_deBruijn64tab), ("internal/strconv.uint64pow10", laid_internal_strconv_uint64pow10), ("ramage/set.ones", laid_ramage_set_ones)] }
def SetRulesSaid : Prop := setRulesRow.holds Tryd.pinned (OpenSpec.ofChange setRulesSpec)

/-- ITS FALSE NEIGHBOUR: 'it returns false'. Refute it at one input. -/
def setRulesWrong : ChangeSpec := { name := "setRules", fn := fun _ => fun
  | [d1, d2, d3, d4] => { results := [.lit (.bool false)], args := [d1, d2, d3, d4] }
  | _ => none }
def SetRulesWrongFalsely : Prop := setRulesRow.holds Tryd.pinned (OpenSpec.ofChange setRulesWrong)

/- THE SECOND FORM. 'bulk': how many values and letters a reading holds, each counted each time it is reached (what is shared counts as often as it is met; a slice's spare places count too). A statement '..UptoSaid' is the law's where the arguments, and the package variables that the reading takes, are together of bulk at most 1048576: NARROWER than '..Said'. Prove '..Said' where nothing that the law and all that it calls make is longer than what came in: it says more and counts as full. Else prove '..UptoSaid'. A law counts once. -/
mutual
def uptoBulk {H : Type} : DataW H → Nat
  | .lit (.string bytes) => bytes.length + 1
  | .lit _ => 1
  | .nil => 1
  | .ptr d => uptoBulk d + 1
  | .slice elems spare => uptoBulkAll elems + uptoBulkAll spare + 1
  | .agg parts => uptoBulkAll parts + 1
  | .iface _ d => uptoBulk d + 1
  | .map entries => uptoBulkEntries entries + 1
  | .held _ => 1
def uptoBulkAll {H : Type} : List (DataW H) → Nat
  | [] => 0
  | d :: r => uptoBulk d + uptoBulkAll r
def uptoBulkEntries {H : Type} : List (Lit × DataW H) → Nat
  | [] => 0
  | x :: r => uptoBulkEntry x + uptoBulkEntries r
def uptoBulkEntry {H : Type} : Lit × DataW H → Nat
  | (.string bytes, d) => bytes.length + uptoBulk d + 1
  | (_, d) => uptoBulk d + 1
 end
def uptoSmall : (H : Type) → List (DataW H) → Bool := fun _ ds => decide (uptoBulkAll ds ≤ 1048576)
def OpenSpec.upto (s : _root_.Go.ChangeSpec) : _root_.Go.OpenSpec := { _root_.Go.OpenSpec.ofChange s with cond := some uptoSmall }

/-- 'ramagelaw05.SetRight', WHERE WHAT IT READS IS OF BULK AT MOST 1048576: true; the input reads as it did. -/
def setRightUptoRow : OpenClaim := { program := "ytlliihognnnpmaadoor", sum := "3b91edd009131cb80aedfed5991e51fffa28bd2e318c3d2ef5b9f7c5c9803b7f", func := "ramage/ramagelaw05.SetRight", spec := "setRight", inPlace := ["internal/abi.NoEscape"], unfollowed := true, recurses := true, named := ["ramage/set.ones", "internal/strconv.uint64pow10", "math/bits.deBruijn32tab", "math/bits.deBruijn64tab"], apart := false, laid := [("math/bits.deBruijn32tab", laid_math_bits_deBruijn32tab), ("math/bits.deBruijn64tab", laid_math_bits_deBruijn64tab), ("internal/strconv.uint64pow10", laid_internal_strconv_uint64pow10), ("ramage/set.ones", laid_ramage_set_ones)], narrowed := true }
def SetRightUptoSaid : Prop := setRightUptoRow.holds Tryd.pinned (OpenSpec.upto setRightSpec)

/-- 'ramagelaw05.SetMakes', WHERE WHAT IT READS IS OF BULK AT MOST 1048576: true; the input reads as it did. -/
def setMakesUptoRow : OpenClaim := { program := "ytlliihognnnpmaadoor", sum := "3b91edd009131cb80aedfed5991e51fffa28bd2e318c3d2ef5b9f7c5c9803b7f", func := "ramage/ramagelaw05.SetMakes", spec := "setMakes", inPlace := ["internal/abi.NoEscape"], unfollowed := true, recurses := true, named := ["ramage/set.ones", "internal/strconv.uint64pow10", "math/bits.deBruijn32tab", "math/bits.deBruijn64tab"], apart := false, laid := [("math/bits.deBruijn32tab", laid_math_bits_deBruijn32tab), ("math/bits.deBruijn64tab", laid_math_bits_deBruijn64tab), ("internal/strconv.uint64pow10", laid_internal_strconv_uint64pow10), ("ramage/set.ones", laid_ramage_set_ones)], narrowed := true }
def SetMakesUptoSaid : Prop := setMakesUptoRow.holds Tryd.pinned (OpenSpec.upto setMakesSpec)

/-- 'ramagelaw05.SetOps', WHERE WHAT IT READS IS OF BULK AT MOST 1048576: true; the input reads as it did. -/
def setOpsUptoRow : OpenClaim := { program := "ytlliihognnnpmaadoor", sum := "3b91edd009131cb80aedfed5991e51fffa28bd2e318c3d2ef5b9f7c5c9803b7f", func := "ramage/ramagelaw05.SetOps", spec := "setOps", inPlace := ["internal/abi.NoEscape"], unfollowed := true, recurses := true, named := ["ramage/set.ones", "internal/strconv.uint64pow10", "math/bits.deBruijn32tab", "math/bits.deBruijn64tab"], apart := false, laid := [("math/bits.deBruijn32tab", laid_math_bits_deBruijn32tab), ("math/bits.deBruijn64tab", laid_math_bits_deBruijn64tab), ("internal/strconv.uint64pow10", laid_internal_strconv_uint64pow10), ("ramage/set.ones", laid_ramage_set_ones)], narrowed := true }
def SetOpsUptoSaid : Prop := setOpsUptoRow.holds Tryd.pinned (OpenSpec.upto setOpsSpec)

/-- 'ramagelaw05.SetWith', WHERE WHAT IT READS IS OF BULK AT MOST 1048576: true; the input reads as it did. -/
def setWithUptoRow : OpenClaim := { program := "ytlliihognnnpmaadoor", sum := "3b91edd009131cb80aedfed5991e51fffa28bd2e318c3d2ef5b9f7c5c9803b7f", func := "ramage/ramagelaw05.SetWith", spec := "setWith", inPlace := ["internal/abi.NoEscape"], unfollowed := true, recurses := true, named := ["ramage/set.ones", "internal/strconv.uint64pow10", "math/bits.deBruijn32tab", "math/bits.deBruijn64tab"], apart := false, laid := [("math/bits.deBruijn32tab", laid_math_bits_deBruijn32tab), ("math/bits.deBruijn64tab", laid_math_bits_deBruijn64tab), ("internal/strconv.uint64pow10", laid_internal_strconv_uint64pow10), ("ramage/set.ones", laid_ramage_set_ones)], narrowed := true }
def SetWithUptoSaid : Prop := setWithUptoRow.holds Tryd.pinned (OpenSpec.upto setWithSpec)

/-- 'ramagelaw05.SetQuants', WHERE WHAT IT READS IS OF BULK AT MOST 1048576: true; the input reads as it did. -/
def setQuantsUptoRow : OpenClaim := { program := "ytlliihognnnpmaadoor", sum := "3b91edd009131cb80aedfed5991e51fffa28bd2e318c3d2ef5b9f7c5c9803b7f", func := "ramage/ramagelaw05.SetQuants", spec := "setQuants", inPlace := ["internal/abi.NoEscape"], unfollowed := true, recurses := true, named := ["ramage/set.ones", "internal/strconv.uint64pow10", "math/bits.deBruijn32tab", "math/bits.deBruijn64tab"], apart := false, laid := [("math/bits.deBruijn32tab", laid_math_bits_deBruijn32tab), ("math/bits.deBruijn64tab", laid_math_bits_deBruijn64tab), ("internal/strconv.uint64pow10", laid_internal_strconv_uint64pow10), ("ramage/set.ones", laid_ramage_set_ones)], narrowed := true }
def SetQuantsUptoSaid : Prop := setQuantsUptoRow.holds Tryd.pinned (OpenSpec.upto setQuantsSpec)

/-- 'ramagelaw05.SetRenames', WHERE WHAT IT READS IS OF BULK AT MOST 1048576: true; the input reads as it did. -/
def setRenamesUptoRow : OpenClaim := { program := "ytlliihognnnpmaadoor", sum := "3b91edd009131cb80aedfed5991e51fffa28bd2e318c3d2ef5b9f7c5c9803b7f", func := "ramage/ramagelaw05.SetRenames", spec := "setRenames", inPlace := ["internal/abi.NoEscape"], unfollowed := true, recurses := true, named := ["ramage/set.ones", "internal/strconv.uint64pow10", "math/bits.deBruijn32tab", "math/bits.deBruijn64tab"], apart := false, laid := [("math/bits.deBruijn32tab", laid_math_bits_deBruijn32tab), ("math/bits.deBruijn64tab", laid_math_bits_deBruijn64tab), ("internal/strconv.uint64pow10", laid_internal_strconv_uint64pow10), ("ramage/set.ones", laid_ramage_set_ones)], narrowed := true }
def SetRenamesUptoSaid : Prop := setRenamesUptoRow.holds Tryd.pinned (OpenSpec.upto setRenamesSpec)

/-- 'ramagelaw05.SetTexts', WHERE WHAT IT READS IS OF BULK AT MOST 1048576: true; the input reads as it did. -/
def setTextsUptoRow : OpenClaim := { program := "ytlliihognnnpmaadoor", sum := "3b91edd009131cb80aedfed5991e51fffa28bd2e318c3d2ef5b9f7c5c9803b7f", func := "ramage/ramagelaw05.SetTexts", spec := "setTexts", inPlace := ["internal/abi.NoEscape", "internal/bytealg.IndexByteString", "internal/bytealg.IndexString"], unfollowed := true, recurses := true, named := ["ramage/set.ones", "internal/strconv.uint64pow10", "math/bits.deBruijn32tab", "math/bits.deBruijn64tab", "internal/bytealg.MaxLen"], apart := false, laid := [("math/bits.deBruijn32tab", laid_math_bits_deBruijn32tab), ("math/bits.deBruijn64tab", laid_math_bits_deBruijn64tab), ("internal/strconv.uint64pow10", laid_internal_strconv_uint64pow10), ("ramage/set.ones", laid_ramage_set_ones)], narrowed := true }
def SetTextsUptoSaid : Prop := setTextsUptoRow.holds Tryd.pinned (OpenSpec.upto setTextsSpec)

/-- 'ramagelaw05.SetRules', WHERE WHAT IT READS IS OF BULK AT MOST 1048576: true; the input reads as it did. -/
def setRulesUptoRow : OpenClaim := { program := "ytlliihognnnpmaadoor", sum := "3b91edd009131cb80aedfed5991e51fffa28bd2e318c3d2ef5b9f7c5c9803b7f", func := "ramage/ramagelaw05.SetRules", spec := "setRules", inPlace := ["internal/abi.NoEscape"], unfollowed := true, recurses := true, named := ["ramage/set.ones", "internal/strconv.uint64pow10", "math/bits.deBruijn32tab", "math/bits.deBruijn64tab"], apart := false, laid := [("math/bits.deBruijn32tab", laid_math_bits_deBruijn32tab), ("math/bits.deBruijn64tab", laid_math_bits_deBruijn64tab), ("internal/strconv.uint64pow10", laid_internal_strconv_uint64pow10), ("ramage/set.ones", laid_ramage_set_ones)], narrowed := true }
def SetRulesUptoSaid : Prop := setRulesUptoRow.holds Tryd.pinned (OpenSpec.upto setRulesSpec)

end Rows
end Go.Proofs.YtlliihognnnpmaaDoor
