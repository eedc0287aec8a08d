/- What the statement SetMakes gathers; no statement of the seat. -/
import Derived.Test.YtlliihognnnpmaaDoorMk4
namespace Go.Proofs.YtlliihognnnpmaaDoor
open Go.RowKit SetMath

theorem SI.below {w w' : World} {v : Value} {xs : List Int} (h : SI w v xs) (hb : Below w.heap.size w w') : SI w' v xs := SV.below h hb
def MkA (W1 : World) (p ra rb rc rd : Nat) (tg : List Bool) (i : Value) (wr : World) : Prop :=
  ∃ (x : Nat) (zb zd : List Bool), x ≤ p ∧ i = .int .i64 (x : Int) ∧ zb.length = p ∧ zb.take x = (List.replicate p true).take x ∧ zd.length = p ∧ zd.take x = tg.take x ∧
    Own wr W1.heap.size 4 (.slice (some ⟨ra, 0, none⟩) p p) (bl (List.replicate p false)) ∧ Own wr W1.heap.size 4 (.slice (some ⟨rb, 0, none⟩) p p) (bl zb) ∧ Own wr W1.heap.size 4 (.slice (some ⟨rc, 0, none⟩) p p) (bl (List.replicate p false)) ∧ Own wr W1.heap.size 4 (.slice (some ⟨rd, 0, none⟩) p p) (bl zd) ∧ Below W1.heap.size W1 wr
def MkB (W1 : World) (n p LL ra rb rc rd : Nat) (tg : List Bool) (xs : List Int) (s20 i : Value) (wr : World) : Prop :=
  ∃ k : Nat, k ≤ LL ∧ i = .int .i64 (k : Int) ∧ ((s20 = .int .i64 0 ∧ ∀ x ∈ xs.take k, goodX n x) ∨ (s20 = .int .i64 1 ∧ ¬ ∀ x ∈ xs.take k, goodX n x)) ∧
    Own wr W1.heap.size 4 (.slice (some ⟨ra, 0, none⟩) p p) (bl (List.replicate p false)) ∧ Own wr W1.heap.size 4 (.slice (some ⟨rb, 0, none⟩) p p) (bl (List.replicate p true)) ∧ Own wr W1.heap.size 4 (.slice (some ⟨rc, 0, none⟩) p p) (bl (somT p (xs.take k))) ∧ Own wr W1.heap.size 4 (.slice (some ⟨rd, 0, none⟩) p p) (bl tg) ∧ Below W1.heap.size W1 wr
end Go.Proofs.YtlliihognnnpmaaDoor
