/- Which edges and which records may be. Nothing of the program. -/
import Derived.Lib.ItoaNum
namespace Go.Proofs.YtheeohklceieeaaDoor.Nd
namespace NodeMath
open Go

/-- Which edges may be: of the document's words. -/
def PlainP (f tag at' : Nat) (l n : Int) : Prop := 1 ≤ f ∧ f ≤ 5 ∧ 0 ≤ n ∧ n ≤ 16 ∧ 0 ≤ l ∧ l ≤ n ∧ (f ≠ 5 ∨ at' = 0 → tag = 0) ∧ (f = 5 → at' ≠ 0 → l ≤ (tag : Int) ∧ (tag : Int) ≤ n)
instance (f tag at' : Nat) (l n : Int) : Decidable (PlainP f tag at' l n) := by unfold PlainP; infer_instance
/-- Which records may be. -/
def RightP (f t b lt la ht ha : Nat) (n : Int) : Prop := 1 ≤ f ∧ f ≤ 5 ∧ 0 ≤ n ∧ n ≤ 16 ∧ t ≤ b ∧ (b : Int) < n ∧ (t < b → f = 3 ∨ f = 4) ∧ PlainP f lt la ((b : Int) + 1) n ∧ PlainP f ht ha ((b : Int) + 1) n ∧ (f = 2 ∨ f = 4 → 0 < ha) ∧ (f ≠ 2 → f ≠ 4 → la ≠ ha ∨ lt ≠ ht)
instance (f t b lt la ht ha : Nat) (n : Int) : Decidable (RightP f t b lt la ht ha n) := by unfold RightP; infer_instance
end NodeMath
end Go.Proofs.YtheeohklceieeaaDoor.Nd
