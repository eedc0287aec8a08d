/-
  No cell of these rows narrows 'for every input' (looked for: loops, veiled, ifaces, maps, wideKeys, modest, calm, conditions, laid).
  DERIVED. THE GIVEN ROWS OF THIS SEAT. 3 by the template 'for every input the law returns true; each argument reads behind the call as it read before'; 0 by the template 'total and deterministic' (their statements: YtioeknbajphmpaaTotals.lean).
  GIVEN WITH THE SEED: the statements are not yours to turn. If you find one false, say at which input.
  Laid BY PROGRAM, IN A SANDBOX (cutbox-rows.mjs): the forced cells as the released guide's own fill.sh prints them over the translation 661ceca1c935856f… (all of the seat's roots in one cut). By AI agents, Wed Nov 11 2026. No macro, syntax, notation, axiom, sorry.
-/
import Derived.Test.YtioeknbajphmpaaChecked
import GoSem.Claim
import GoSem.ClaimJoined
import GoSem.ClaimMapViews
import Derived.JoinedTies
import Derived.KernelRfl
namespace Go.Proofs.Ytioeknbajphmpaa
/- THE CELL 'sum', in the pinned program and in every row, IS THE sha256 OF THE DUMP (.gsa) THAT YtioeknbajphmpaaProg.lean LOADS. Nothing in Lean hashes anything: it is a label: what it is worth is what the hold of that sum in a sandbox is worth. -/
noncomputable def Try.pinned : Pinned := { name := "ytioeknbajphmpaa", sum := "661ceca1c935856f4bd245b1769e6e74897a06f38251ef25ae3ed6611c9c35ad", checked := Try.checked }
namespace Rows
def none {H : Type} : Left H := { results := [], args := [] }

/-- 'ramagelaw14.CbddMakes': WHATEVER THE INPUT: true; the input reads as it did. -/
def cbddMakesSpec : ChangeSpec := { name := "cbddMakes", fn := fun _ => fun
  | [d1, d2, d3, d4, d5, d6] => { results := [.lit (.bool true)], args := [d1, d2, d3, d4, d5, d6] }
  | _ => none }
def cbddMakesRow : OpenClaim := { program := "ytioeknbajphmpaa", sum := "661ceca1c935856f4bd245b1769e6e74897a06f38251ef25ae3ed6611c9c35ad", func := "ramage/ramagelaw14.CbddMakes", spec := "cbddMakes", unfollowed := true, recurses := true, apart := false }
def CbddMakesSaid : Prop := cbddMakesRow.holds Try.pinned (OpenSpec.ofChange cbddMakesSpec)

/-- ITS FALSE NEIGHBOUR: 'it returns false'. Refute it at one input. -/
def cbddMakesWrong : ChangeSpec := { name := "cbddMakes", fn := fun _ => fun
  | [d1, d2, d3, d4, d5, d6] => { results := [.lit (.bool false)], args := [d1, d2, d3, d4, d5, d6] }
  | _ => none }
def CbddMakesWrongFalsely : Prop := cbddMakesRow.holds Try.pinned (OpenSpec.ofChange cbddMakesWrong)

/-- 'ramagelaw14.CbddViews': WHATEVER THE INPUT: true; the input reads as it did. -/
def cbddViewsSpec : ChangeSpec := { name := "cbddViews", fn := fun _ => fun
  | [d1, d2, d3, d4, d5] => { results := [.lit (.bool true)], args := [d1, d2, d3, d4, d5] }
  | _ => none }
def cbddViewsRow : OpenClaim := { program := "ytioeknbajphmpaa", sum := "661ceca1c935856f4bd245b1769e6e74897a06f38251ef25ae3ed6611c9c35ad", func := "ramage/ramagelaw14.CbddViews", spec := "cbddViews", unfollowed := true, recurses := true, apart := false }
def CbddViewsSaid : Prop := cbddViewsRow.holds Try.pinned (OpenSpec.ofChange cbddViewsSpec)

/-- ITS FALSE NEIGHBOUR: 'it returns false'. Refute it at one input. -/
def cbddViewsWrong : ChangeSpec := { name := "cbddViews", fn := fun _ => fun
  | [d1, d2, d3, d4, d5] => { results := [.lit (.bool false)], args := [d1, d2, d3, d4, d5] }
  | _ => none }
def CbddViewsWrongFalsely : Prop := cbddViewsRow.holds Try.pinned (OpenSpec.ofChange cbddViewsWrong)

/-- 'ramagelaw14.CbddSwept': WHATEVER THE INPUT: true; the input reads as it did. -/
def cbddSweptSpec : ChangeSpec := { name := "cbddSwept", fn := fun _ => fun
  | [d1, d2, d3] => { results := [.lit (.bool true)], args := [d1, d2, d3] }
  | _ => none }
def cbddSweptRow : OpenClaim := { program := "ytioeknbajphmpaa", sum := "661ceca1c935856f4bd245b1769e6e74897a06f38251ef25ae3ed6611c9c35ad", func := "ramage/ramagelaw14.CbddSwept", spec := "cbddSwept", unfollowed := true, recurses := true, apart := false }
def CbddSweptSaid : Prop := cbddSweptRow.holds Try.pinned (OpenSpec.ofChange cbddSweptSpec)

/-- ITS FALSE NEIGHBOUR: 'it returns false'. Refute it at one input. -/
def cbddSweptWrong : ChangeSpec := { name := "cbddSwept", fn := fun _ => fun
  | [d1, d2, d3] => { results := [.lit (.bool false)], args := [d1, d2, d3] }
  | _ => none }
def CbddSweptWrongFalsely : Prop := cbddSweptRow.holds Try.pinned (OpenSpec.ofChange cbddSweptWrong)

/- THE SECOND FORM. 'bulk': how many values and letters a reading holds, each counted each time it is reached (what is shared counts as often as it is met; a slice's spare places count too). A statement '..UptoSaid' is the law's where the arguments, and the package variables that the reading takes, are together of bulk at most 1048576: NARROWER than '..Said'. Prove '..Said' where nothing that the law and all that it calls make is longer than what came in: it says more and counts as full. Else prove '..UptoSaid'. A law counts once. -/
mutual
def uptoBulk {H : Type} : DataW H → Nat
  | .lit (.string bytes) => bytes.length + 1
  | .lit _ => 1
  | .nil => 1
  | .ptr d => uptoBulk d + 1
  | .slice elems spare => uptoBulkAll elems + uptoBulkAll spare + 1
  | .agg parts => uptoBulkAll parts + 1
  | .iface _ d => uptoBulk d + 1
  | .map entries => uptoBulkEntries entries + 1
  | .held _ => 1
def uptoBulkAll {H : Type} : List (DataW H) → Nat
  | [] => 0
  | d :: r => uptoBulk d + uptoBulkAll r
def uptoBulkEntries {H : Type} : List (Lit × DataW H) → Nat
  | [] => 0
  | x :: r => uptoBulkEntry x + uptoBulkEntries r
def uptoBulkEntry {H : Type} : Lit × DataW H → Nat
  | (.string bytes, d) => bytes.length + uptoBulk d + 1
  | (_, d) => uptoBulk d + 1
 end
def uptoSmall : (H : Type) → List (DataW H) → Bool := fun _ ds => decide (uptoBulkAll ds ≤ 1048576)
def OpenSpec.upto (s : _root_.Go.ChangeSpec) : _root_.Go.OpenSpec := { _root_.Go.OpenSpec.ofChange s with cond := some uptoSmall }

/-- 'ramagelaw14.CbddMakes', WHERE WHAT IT READS IS OF BULK AT MOST 1048576: true; the input reads as it did. -/
def cbddMakesUptoRow : OpenClaim := { program := "ytioeknbajphmpaa", sum := "661ceca1c935856f4bd245b1769e6e74897a06f38251ef25ae3ed6611c9c35ad", func := "ramage/ramagelaw14.CbddMakes", spec := "cbddMakes", unfollowed := true, recurses := true, apart := false, narrowed := true }
def CbddMakesUptoSaid : Prop := cbddMakesUptoRow.holds Try.pinned (OpenSpec.upto cbddMakesSpec)

/-- 'ramagelaw14.CbddViews', WHERE WHAT IT READS IS OF BULK AT MOST 1048576: true; the input reads as it did. -/
def cbddViewsUptoRow : OpenClaim := { program := "ytioeknbajphmpaa", sum := "661ceca1c935856f4bd245b1769e6e74897a06f38251ef25ae3ed6611c9c35ad", func := "ramage/ramagelaw14.CbddViews", spec := "cbddViews", unfollowed := true, recurses := true, apart := false, narrowed := true }
def CbddViewsUptoSaid : Prop := cbddViewsUptoRow.holds Try.pinned (OpenSpec.upto cbddViewsSpec)

/-- 'ramagelaw14.CbddSwept', WHERE WHAT IT READS IS OF BULK AT MOST 1048576: true; the input reads as it did. -/
def cbddSweptUptoRow : OpenClaim := { program := "ytioeknbajphmpaa", sum := "661ceca1c935856f4bd245b1769e6e74897a06f38251ef25ae3ed6611c9c35ad", func := "ramage/ramagelaw14.CbddSwept", spec := "cbddSwept", unfollowed := true, recurses := true, apart := false, narrowed := true }
def CbddSweptUptoSaid : Prop := cbddSweptUptoRow.holds Try.pinned (OpenSpec.upto cbddSweptSpec)

end Rows
end Go.Proofs.Ytioeknbajphmpaa
