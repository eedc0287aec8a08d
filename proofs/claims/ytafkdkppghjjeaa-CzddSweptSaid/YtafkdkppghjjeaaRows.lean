/-
  No cell of these rows narrows 'for every input' (looked for: loops, veiled, ifaces, maps, wideKeys, modest, calm, conditions, laid).
  DERIVED. THE GIVEN ROWS OF THIS SEAT. 3 by the template 'for every input the law returns true; each argument reads behind the call as it read before'; 0 by the template 'total and deterministic' (their statements: YtafkdkppghjjeaaTotals.lean).
  GIVEN WITH THE SEED: the statements are not yours to turn. If you find one false, say at which input.
  Laid BY PROGRAM, IN A SANDBOX (cutbox-rows.mjs): the forced cells as the released guide's own fill.sh prints them over the translation b5b1edc58a00b187… (all of the seat's roots in one cut). By AI agents, Wed Nov 11 2026. No macro, syntax, notation, axiom, sorry.
-/
import Derived.Test.YtafkdkppghjjeaaChecked
import GoSem.Claim
import GoSem.ClaimJoined
import GoSem.ClaimMapViews
import Derived.JoinedTies
import Derived.KernelRfl
namespace Go.Proofs.Ytafkdkppghjjeaa
/- THE CELL 'sum', in the pinned program and in every row, IS THE sha256 OF THE DUMP (.gsa) THAT YtafkdkppghjjeaaProg.lean LOADS. Nothing in Lean hashes anything: it is a label: what it is worth is what the hold of that sum in a sandbox is worth. -/
noncomputable def Try.pinned : Pinned := { name := "ytafkdkppghjjeaa", sum := "b5b1edc58a00b187c76aebfaf424bbd5ad07d342df74ca07ea2a6e59f04bfe79", checked := Try.checked }
namespace Rows
def none {H : Type} : Left H := { results := [], args := [] }

/-- 'ramagelaw15.CzddMakes': WHATEVER THE INPUT: true; the input reads as it did. -/
def czddMakesSpec : ChangeSpec := { name := "czddMakes", fn := fun _ => fun
  | [d1, d2, d3, d4, d5, d6] => { results := [.lit (.bool true)], args := [d1, d2, d3, d4, d5, d6] }
  | _ => none }
def czddMakesRow : OpenClaim := { program := "ytafkdkppghjjeaa", sum := "b5b1edc58a00b187c76aebfaf424bbd5ad07d342df74ca07ea2a6e59f04bfe79", func := "ramage/ramagelaw15.CzddMakes", spec := "czddMakes", unfollowed := true, recurses := true, apart := false }
def CzddMakesSaid : Prop := czddMakesRow.holds Try.pinned (OpenSpec.ofChange czddMakesSpec)

/-- ITS FALSE NEIGHBOUR: 'it returns false'. Refute it at one input. -/
def czddMakesWrong : ChangeSpec := { name := "czddMakes", fn := fun _ => fun
  | [d1, d2, d3, d4, d5, d6] => { results := [.lit (.bool false)], args := [d1, d2, d3, d4, d5, d6] }
  | _ => none }
def CzddMakesWrongFalsely : Prop := czddMakesRow.holds Try.pinned (OpenSpec.ofChange czddMakesWrong)

/-- 'ramagelaw15.CzddViews': WHATEVER THE INPUT: true; the input reads as it did. -/
def czddViewsSpec : ChangeSpec := { name := "czddViews", fn := fun _ => fun
  | [d1, d2, d3, d4, d5] => { results := [.lit (.bool true)], args := [d1, d2, d3, d4, d5] }
  | _ => none }
def czddViewsRow : OpenClaim := { program := "ytafkdkppghjjeaa", sum := "b5b1edc58a00b187c76aebfaf424bbd5ad07d342df74ca07ea2a6e59f04bfe79", func := "ramage/ramagelaw15.CzddViews", spec := "czddViews", unfollowed := true, recurses := true, apart := false }
def CzddViewsSaid : Prop := czddViewsRow.holds Try.pinned (OpenSpec.ofChange czddViewsSpec)

/-- ITS FALSE NEIGHBOUR: 'it returns false'. Refute it at one input. -/
def czddViewsWrong : ChangeSpec := { name := "czddViews", fn := fun _ => fun
  | [d1, d2, d3, d4, d5] => { results := [.lit (.bool false)], args := [d1, d2, d3, d4, d5] }
  | _ => none }
def CzddViewsWrongFalsely : Prop := czddViewsRow.holds Try.pinned (OpenSpec.ofChange czddViewsWrong)

/-- 'ramagelaw15.CzddSwept': WHATEVER THE INPUT: true; the input reads as it did. -/
def czddSweptSpec : ChangeSpec := { name := "czddSwept", fn := fun _ => fun
  | [d1, d2, d3] => { results := [.lit (.bool true)], args := [d1, d2, d3] }
  | _ => none }
def czddSweptRow : OpenClaim := { program := "ytafkdkppghjjeaa", sum := "b5b1edc58a00b187c76aebfaf424bbd5ad07d342df74ca07ea2a6e59f04bfe79", func := "ramage/ramagelaw15.CzddSwept", spec := "czddSwept", unfollowed := true, recurses := true, apart := false }
def CzddSweptSaid : Prop := czddSweptRow.holds Try.pinned (OpenSpec.ofChange czddSweptSpec)

/-- ITS FALSE NEIGHBOUR: 'it returns false'. Refute it at one input. -/
def czddSweptWrong : ChangeSpec := { name := "czddSwept", fn := fun _ => fun
  | [d1, d2, d3] => { results := [.lit (.bool false)], args := [d1, d2, d3] }
  | _ => none }
def CzddSweptWrongFalsely : Prop := czddSweptRow.holds Try.pinned (OpenSpec.ofChange czddSweptWrong)

/- THE SECOND FORM. 'bulk': how many values and letters a reading holds, each counted each time it is reached (what is shared counts as often as it is met; a slice's spare places count too). A statement '..UptoSaid' is the law's where the arguments, and the package variables that the reading takes, are together of bulk at most 1048576: NARROWER than '..Said'. Prove '..Said' where nothing that the law and all that it calls make is longer than what came in: it says more and counts as full. Else prove '..UptoSaid'. A law counts once. -/
mutual
def uptoBulk {H : Type} : DataW H → Nat
  | .lit (.string bytes) => bytes.length + 1
  | .lit _ => 1
  | .nil => 1
  | .ptr d => uptoBulk d + 1
  | .slice elems spare => uptoBulkAll elems + uptoBulkAll spare + 1
  | .agg parts => uptoBulkAll parts + 1
  | .iface _ d => uptoBulk d + 1
  | .map entries => uptoBulkEntries entries + 1
  | .held _ => 1
def uptoBulkAll {H : Type} : List (DataW H) → Nat
  | [] => 0
  | d :: r => uptoBulk d + uptoBulkAll r
def uptoBulkEntries {H : Type} : List (Lit × DataW H) → Nat
  | [] => 0
  | x :: r => uptoBulkEntry x + uptoBulkEntries r
def uptoBulkEntry {H : Type} : Lit × DataW H → Nat
  | (.string bytes, d) => bytes.length + uptoBulk d + 1
  | (_, d) => uptoBulk d + 1
 end
def uptoSmall : (H : Type) → List (DataW H) → Bool := fun _ ds => decide (uptoBulkAll ds ≤ 1048576)
def OpenSpec.upto (s : _root_.Go.ChangeSpec) : _root_.Go.OpenSpec := { _root_.Go.OpenSpec.ofChange s with cond := some uptoSmall }

/-- 'ramagelaw15.CzddMakes', WHERE WHAT IT READS IS OF BULK AT MOST 1048576: true; the input reads as it did. -/
def czddMakesUptoRow : OpenClaim := { program := "ytafkdkppghjjeaa", sum := "b5b1edc58a00b187c76aebfaf424bbd5ad07d342df74ca07ea2a6e59f04bfe79", func := "ramage/ramagelaw15.CzddMakes", spec := "czddMakes", unfollowed := true, recurses := true, apart := false, narrowed := true }
def CzddMakesUptoSaid : Prop := czddMakesUptoRow.holds Try.pinned (OpenSpec.upto czddMakesSpec)

/-- 'ramagelaw15.CzddViews', WHERE WHAT IT READS IS OF BULK AT MOST 1048576: true; the input reads as it did. -/
def czddViewsUptoRow : OpenClaim := { program := "ytafkdkppghjjeaa", sum := "b5b1edc58a00b187c76aebfaf424bbd5ad07d342df74ca07ea2a6e59f04bfe79", func := "ramage/ramagelaw15.CzddViews", spec := "czddViews", unfollowed := true, recurses := true, apart := false, narrowed := true }
def CzddViewsUptoSaid : Prop := czddViewsUptoRow.holds Try.pinned (OpenSpec.upto czddViewsSpec)

/-- 'ramagelaw15.CzddSwept', WHERE WHAT IT READS IS OF BULK AT MOST 1048576: true; the input reads as it did. -/
def czddSweptUptoRow : OpenClaim := { program := "ytafkdkppghjjeaa", sum := "b5b1edc58a00b187c76aebfaf424bbd5ad07d342df74ca07ea2a6e59f04bfe79", func := "ramage/ramagelaw15.CzddSwept", spec := "czddSwept", unfollowed := true, recurses := true, apart := false, narrowed := true }
def CzddSweptUptoSaid : Prop := czddSweptUptoRow.holds Try.pinned (OpenSpec.upto czddSweptSpec)

end Rows
end Go.Proofs.Ytafkdkppghjjeaa
