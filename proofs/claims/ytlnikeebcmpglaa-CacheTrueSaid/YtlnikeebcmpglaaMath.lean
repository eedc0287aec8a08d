/- What stands at a key's place, as the last one that was put there; no statement of the seat. -/
import Derived.Test.YtlnikeebcmpglaaRows
namespace Go.Proofs.Ytlnikeebcmpglaa.CacheMath

/-- What stands at each place: a key and an answer. -/
abbrev Places := Nat → Option (Nat × Int)
/-- The last one of a list at place i. -/
def last (n : Nat) (m : List (Nat × Int)) (i : Nat) : Option (Nat × Int) := m.reverse.find? (fun p => p.1 % n == i)
theorem last_nil (n i : Nat) : last n [] i = none := rfl
theorem last_snoc (n : Nat) (m : List (Nat × Int)) (p : Nat × Int) (i : Nat) : last n (m ++ [p]) i = if p.1 % n = i then some p else last n m i := by
  unfold last
  rw [List.reverse_append, List.reverse_singleton, List.singleton_append, List.find?_cons]
  by_cases h : p.1 % n = i
  · simp [h]
  · rw [if_neg h, show (p.1 % n == i) = false by simpa using h]
/-- A key and an answer put. -/
def seat (S : Places) (n k : Nat) (v : Int) : Places := fun i => if k % n = i then some (k, v) else S i
/-- What is found of a key. -/
def found (S : Places) (n k : Nat) : Option Int := match S (k % n) with
  | some (k', v) => if k' = k then some v else none
  | none => none
theorem found_seat (S : Places) (n k : Nat) (v : Int) : found (seat S n k v) n k = some v := by simp [found, seat]
end Go.Proofs.Ytlnikeebcmpglaa.CacheMath
