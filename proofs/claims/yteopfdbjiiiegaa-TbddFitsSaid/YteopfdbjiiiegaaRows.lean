/-
  No cell of these rows narrows 'for every input' (looked for: loops, veiled, ifaces, maps, wideKeys, modest, calm, conditions, laid).
  DERIVED. THE GIVEN ROWS OF THIS SEAT. 3 by the template 'for every input the law returns true; each argument reads behind the call as it read before'; 0 by the template 'total and deterministic' (their statements: YteopfdbjiiiegaaTotals.lean).
  GIVEN WITH THE SEED: the statements are not yours to turn. If you find one false, say at which input.
  Laid BY PROGRAM, IN A SANDBOX (cutbox-rows.mjs): the forced cells as the released guide's own fill.sh prints them over the translation 0cfe3344089d5fb9… (all of the seat's roots in one cut). By AI agents, Wed Nov 11 2026. No macro, syntax, notation, axiom, sorry.
-/
import Derived.Test.YteopfdbjiiiegaaChecked
import GoSem.Claim
import GoSem.ClaimJoined
import GoSem.ClaimMapViews
import Derived.JoinedTies
import Derived.KernelRfl
namespace Go.Proofs.Yteopfdbjiiiegaa
/- THE CELL 'sum', in the pinned program and in every row, IS THE sha256 OF THE DUMP (.gsa) THAT YteopfdbjiiiegaaProg.lean LOADS. Nothing in Lean hashes anything: it is a label: what it is worth is what the hold of that sum in a sandbox is worth. -/
noncomputable def Try.pinned : Pinned := { name := "yteopfdbjiiiegaa", sum := "0cfe3344089d5fb911b8150082a52bbdfdde911578e4dc3765f2dd0037d94bbc", checked := Try.checked }
namespace Rows
def none {H : Type} : Left H := { results := [], args := [] }

/-- 'ramagelaw16.TbddMakes': WHATEVER THE INPUT: true; the input reads as it did. -/
def tbddMakesSpec : ChangeSpec := { name := "tbddMakes", fn := fun _ => fun
  | [d1, d2, d3, d4, d5, d6] => { results := [.lit (.bool true)], args := [d1, d2, d3, d4, d5, d6] }
  | _ => none }
def tbddMakesRow : OpenClaim := { program := "yteopfdbjiiiegaa", sum := "0cfe3344089d5fb911b8150082a52bbdfdde911578e4dc3765f2dd0037d94bbc", func := "ramage/ramagelaw16.TbddMakes", spec := "tbddMakes", unfollowed := true, recurses := true, apart := false }
def TbddMakesSaid : Prop := tbddMakesRow.holds Try.pinned (OpenSpec.ofChange tbddMakesSpec)

/-- ITS FALSE NEIGHBOUR: 'it returns false'. Refute it at one input. -/
def tbddMakesWrong : ChangeSpec := { name := "tbddMakes", fn := fun _ => fun
  | [d1, d2, d3, d4, d5, d6] => { results := [.lit (.bool false)], args := [d1, d2, d3, d4, d5, d6] }
  | _ => none }
def TbddMakesWrongFalsely : Prop := tbddMakesRow.holds Try.pinned (OpenSpec.ofChange tbddMakesWrong)

/-- 'ramagelaw16.TbddViews': WHATEVER THE INPUT: true; the input reads as it did. -/
def tbddViewsSpec : ChangeSpec := { name := "tbddViews", fn := fun _ => fun
  | [d1, d2, d3, d4, d5] => { results := [.lit (.bool true)], args := [d1, d2, d3, d4, d5] }
  | _ => none }
def tbddViewsRow : OpenClaim := { program := "yteopfdbjiiiegaa", sum := "0cfe3344089d5fb911b8150082a52bbdfdde911578e4dc3765f2dd0037d94bbc", func := "ramage/ramagelaw16.TbddViews", spec := "tbddViews", unfollowed := true, recurses := true, apart := false }
def TbddViewsSaid : Prop := tbddViewsRow.holds Try.pinned (OpenSpec.ofChange tbddViewsSpec)

/-- ITS FALSE NEIGHBOUR: 'it returns false'. Refute it at one input. -/
def tbddViewsWrong : ChangeSpec := { name := "tbddViews", fn := fun _ => fun
  | [d1, d2, d3, d4, d5] => { results := [.lit (.bool false)], args := [d1, d2, d3, d4, d5] }
  | _ => none }
def TbddViewsWrongFalsely : Prop := tbddViewsRow.holds Try.pinned (OpenSpec.ofChange tbddViewsWrong)

/-- 'ramagelaw16.TbddFits': WHATEVER THE INPUT: true; the input reads as it did. -/
def tbddFitsSpec : ChangeSpec := { name := "tbddFits", fn := fun _ => fun
  | [d1, d2, d3] => { results := [.lit (.bool true)], args := [d1, d2, d3] }
  | _ => none }
def tbddFitsRow : OpenClaim := { program := "yteopfdbjiiiegaa", sum := "0cfe3344089d5fb911b8150082a52bbdfdde911578e4dc3765f2dd0037d94bbc", func := "ramage/ramagelaw16.TbddFits", spec := "tbddFits", unfollowed := true, recurses := true, apart := false }
def TbddFitsSaid : Prop := tbddFitsRow.holds Try.pinned (OpenSpec.ofChange tbddFitsSpec)

/-- ITS FALSE NEIGHBOUR: 'it returns false'. Refute it at one input. -/
def tbddFitsWrong : ChangeSpec := { name := "tbddFits", fn := fun _ => fun
  | [d1, d2, d3] => { results := [.lit (.bool false)], args := [d1, d2, d3] }
  | _ => none }
def TbddFitsWrongFalsely : Prop := tbddFitsRow.holds Try.pinned (OpenSpec.ofChange tbddFitsWrong)

/- THE SECOND FORM. 'bulk': how many values and letters a reading holds, each counted each time it is reached (what is shared counts as often as it is met; a slice's spare places count too). A statement '..UptoSaid' is the law's where the arguments, and the package variables that the reading takes, are together of bulk at most 1048576: NARROWER than '..Said'. Prove '..Said' where nothing that the law and all that it calls make is longer than what came in: it says more and counts as full. Else prove '..UptoSaid'. A law counts once. -/
mutual
def uptoBulk {H : Type} : DataW H → Nat
  | .lit (.string bytes) => bytes.length + 1
  | .lit _ => 1
  | .nil => 1
  | .ptr d => uptoBulk d + 1
  | .slice elems spare => uptoBulkAll elems + uptoBulkAll spare + 1
  | .agg parts => uptoBulkAll parts + 1
  | .iface _ d => uptoBulk d + 1
  | .map entries => uptoBulkEntries entries + 1
  | .held _ => 1
def uptoBulkAll {H : Type} : List (DataW H) → Nat
  | [] => 0
  | d :: r => uptoBulk d + uptoBulkAll r
def uptoBulkEntries {H : Type} : List (Lit × DataW H) → Nat
  | [] => 0
  | x :: r => uptoBulkEntry x + uptoBulkEntries r
def uptoBulkEntry {H : Type} : Lit × DataW H → Nat
  | (.string bytes, d) => bytes.length + uptoBulk d + 1
  | (_, d) => uptoBulk d + 1
 end
def uptoSmall : (H : Type) → List (DataW H) → Bool := fun _ ds => decide (uptoBulkAll ds ≤ 1048576)
def OpenSpec.upto (s : _root_.Go.ChangeSpec) : _root_.Go.OpenSpec := { _root_.Go.OpenSpec.ofChange s with cond := some uptoSmall }

/-- 'ramagelaw16.TbddMakes', WHERE WHAT IT READS IS OF BULK AT MOST 1048576: true; the input reads as it did. -/
def tbddMakesUptoRow : OpenClaim := { program := "yteopfdbjiiiegaa", sum := "0cfe3344089d5fb911b8150082a52bbdfdde911578e4dc3765f2dd0037d94bbc", func := "ramage/ramagelaw16.TbddMakes", spec := "tbddMakes", unfollowed := true, recurses := true, apart := false, narrowed := true }
def TbddMakesUptoSaid : Prop := tbddMakesUptoRow.holds Try.pinned (OpenSpec.upto tbddMakesSpec)

/-- 'ramagelaw16.TbddViews', WHERE WHAT IT READS IS OF BULK AT MOST 1048576: true; the input reads as it did. -/
def tbddViewsUptoRow : OpenClaim := { program := "yteopfdbjiiiegaa", sum := "0cfe3344089d5fb911b8150082a52bbdfdde911578e4dc3765f2dd0037d94bbc", func := "ramage/ramagelaw16.TbddViews", spec := "tbddViews", unfollowed := true, recurses := true, apart := false, narrowed := true }
def TbddViewsUptoSaid : Prop := tbddViewsUptoRow.holds Try.pinned (OpenSpec.upto tbddViewsSpec)

/-- 'ramagelaw16.TbddFits', WHERE WHAT IT READS IS OF BULK AT MOST 1048576: true; the input reads as it did. -/
def tbddFitsUptoRow : OpenClaim := { program := "yteopfdbjiiiegaa", sum := "0cfe3344089d5fb911b8150082a52bbdfdde911578e4dc3765f2dd0037d94bbc", func := "ramage/ramagelaw16.TbddFits", spec := "tbddFits", unfollowed := true, recurses := true, apart := false, narrowed := true }
def TbddFitsUptoSaid : Prop := tbddFitsUptoRow.holds Try.pinned (OpenSpec.upto tbddFitsSpec)

end Rows
end Go.Proofs.Yteopfdbjiiiegaa
