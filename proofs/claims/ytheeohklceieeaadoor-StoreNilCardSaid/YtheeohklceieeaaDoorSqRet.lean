/- What a call that makes a row leaves; no statement of the seat. -/
import Derived.Test.YtheeohklceieeaaDoorSqRow2
namespace Go.Proofs.YtheeohklceieeaaDoor.Sq
open Go.RowKit

theorem Grows.base {C C' : Nat → Prop} {n m : Nat} (h : Grows C n C') (hm : m ≤ n) : Grows C m C' := fun k hk => (h k hk).imp id (fun h => by omega)
theorem IsRow.form {v : Value} {xs : List Int} {R : Nat → Prop} {w0 : World} (h : IsRow v xs R w0) : v = .nilFunc ∨ ∃ g lb, v = .func (.func g) #[] lb := by
  rcases h with ⟨h, _⟩ | ⟨g, lb, h, _⟩
  · exact .inl h
  · exact .inr ⟨g, lb, h⟩

/-- What a call that makes a row leaves. -/
def Also (R : Nat → Prop) (w w' : World) (k : Nat) : Prop := R k ∨ (w.heap.size ≤ k ∧ k < w'.heap.size)
def RetRow (w : World) (R : Nat → Prop) (xs : List Int) (e : Ending) (w' : World) : Prop := ∃ g lb, e = .returned (.func (.func g) #[] lb) ∧ Enters g ∧ Tells g lb xs (Also R w w') w' ∧ Below w.heap.size w w'
theorem Tells.row {g : Nat} {lb : Array Value} {xs : List Int} {R : Nat → Prop} {w : World} (he : Enters g) (ht : Tells g lb xs R w) : IsRow (.func (.func g) #[] lb) xs R w := .inr ⟨g, lb, rfl, he, ht⟩
theorem IsRow.below {v : Value} {xs : List Int} {w w' : World} (h : IsRow v xs (fun k => k < w.heap.size) w) (hb : Below w.heap.size w w') : IsRow v xs (fun k => k < w'.heap.size) w' :=
  h.later (same_of_below hb (fun _ h => h)) (fun _ hk => Nat.lt_of_lt_of_le hk hb.size)
theorem IsRow.nil (w : World) (R : Nat → Prop) : IsRow .nilFunc [] R w := .inl ⟨rfl, rfl⟩
end Go.Proofs.YtheeohklceieeaaDoor.Sq
