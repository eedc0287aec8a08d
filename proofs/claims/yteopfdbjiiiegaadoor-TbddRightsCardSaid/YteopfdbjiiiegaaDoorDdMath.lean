/- What a TBDD's Make, View and Right come to over a store; nothing of the program. -/
import Derived.Test.YteopfdbjiiiegaaDoorRfQ
import Derived.Test.YteopfdbjiiiegaaDoorMkMath
namespace StoreMath
open ArenaMath IndexMath MarkMath

/-- The tag of the edge to the node that was found. -/
def tagB (a : Ab) (l t1 u1 t2 u2 : Nat) : Nat := if (a.find ⟨5, l, l, t1, u1, t2, u2⟩).2.2 = 0 then l else 0
/-- Make, of an edge's halves (each a tag and a place). -/
def mkB (a : Ab) (l : Int) (t1 u1 t2 u2 : Nat) : Ab × (Nat × Nat) × Nat :=
  if l < 0 ∨ (a.n : Int) ≤ l then (a, (0, 0), 3)
  else if a.leads 5 t1 u1 (l + 1) = false ∨ a.leads 5 t2 u2 (l + 1) = false then (a, (0, 0), 1)
  else if t1 = t2 ∧ u1 = u2 then (a, (t1, u1), 0)
  else if u2 = 0 ∧ (t1 : Int) = l + 1 then (a, (l.toNat, u1), 0)
  else ((a.find ⟨5, l.toNat, l.toNat, t1, u1, t2, u2⟩).1, (tagB a l.toNat t1 u1 t2 u2, (a.find ⟨5, l.toNat, l.toNat, t1, u1, t2, u2⟩).2.1), (a.find ⟨5, l.toNat, l.toNat, t1, u1, t2, u2⟩).2.2)
/-- View, of an edge. -/
def vwB (a : Ab) (t u : Nat) (l : Int) : (Nat × Nat) × (Nat × Nat) × Nat :=
  if l < 0 ∨ (a.n : Int) ≤ l then ((0, 0), (0, 0), 3)
  else if a.leads 5 t u l = false then ((0, 0), (0, 0), 1)
  else if u = 0 ∨ l < (t : Int) then ((t, u), (t, u), 0)
  else match a.node u with
    | some r => if (r.top : Int) = l then ((r.lt, r.la), (r.ht, r.ha), 0) else ((l.toNat + 1, u), (0, 0), 0)
    | none => ((l.toNat + 1, u), (0, 0), 0)
/-- Of each node that is reached: no tag alone tells its halves. -/
def Cuts (a : Ab) (u : Nat) : Prop := ∀ id r, Reached a.sl (fun x => x = u) id → nodeOf a.sl id = some r → ¬ (r.ha = 0 ∧ r.lt = r.top + 1)
/-- Right, of an edge. -/
noncomputable def rgB (a : Ab) (t u : Nat) (l : Int) : Bool := a.leads 5 t u l && @decide (Cuts a u) (Classical.propDecidable _)
theorem rgB_iff {a : Ab} {t u : Nat} {l : Int} : rgB a t u l = true ↔ a.leads 5 t u l = true ∧ Cuts a u := by
  unfold rgB
  rw [Bool.and_eq_true]
  exact and_congr Iff.rfl (@decide_eq_true_iff _ (Classical.propDecidable _))
section
variable {a : Ab} {l : Int} {t u t1 u1 t2 u2 : Nat}
theorem mkB_var (h : l < 0 ∨ (a.n : Int) ≤ l) : mkB a l t1 u1 t2 u2 = (a, (0, 0), 3) := if_pos h
theorem mkB_arg (h : ¬ (l < 0 ∨ (a.n : Int) ≤ l)) (h2 : a.leads 5 t1 u1 (l + 1) = false ∨ a.leads 5 t2 u2 (l + 1) = false) : mkB a l t1 u1 t2 u2 = (a, (0, 0), 1) := by
  unfold mkB; rw [if_neg h, if_pos h2]
theorem mkB_same (h : ¬ (l < 0 ∨ (a.n : Int) ≤ l)) (h1 : a.leads 5 t1 u1 (l + 1) = true) (h2 : a.leads 5 t2 u2 (l + 1) = true) (he : t1 = t2 ∧ u1 = u2) : mkB a l t1 u1 t2 u2 = (a, (t1, u1), 0) := by
  unfold mkB; rw [if_neg h, if_neg (by rw [h1, h2]; simp), if_pos he]
theorem mkB_tag (h : ¬ (l < 0 ∨ (a.n : Int) ≤ l)) (h1 : a.leads 5 t1 u1 (l + 1) = true) (h2 : a.leads 5 t2 u2 (l + 1) = true) (he : ¬ (t1 = t2 ∧ u1 = u2)) (hc : u2 = 0 ∧ (t1 : Int) = l + 1) : mkB a l t1 u1 t2 u2 = (a, (l.toNat, u1), 0) := by
  unfold mkB; rw [if_neg h, if_neg (by rw [h1, h2]; simp), if_neg he, if_pos hc]
theorem mkB_find (h : ¬ (l < 0 ∨ (a.n : Int) ≤ l)) (h1 : a.leads 5 t1 u1 (l + 1) = true) (h2 : a.leads 5 t2 u2 (l + 1) = true) (he : ¬ (t1 = t2 ∧ u1 = u2)) (hc : ¬ (u2 = 0 ∧ (t1 : Int) = l + 1)) : mkB a l t1 u1 t2 u2 = ((a.find ⟨5, l.toNat, l.toNat, t1, u1, t2, u2⟩).1, (tagB a l.toNat t1 u1 t2 u2, (a.find ⟨5, l.toNat, l.toNat, t1, u1, t2, u2⟩).2.1), (a.find ⟨5, l.toNat, l.toNat, t1, u1, t2, u2⟩).2.2) := by
  unfold mkB; rw [if_neg h, if_neg (by rw [h1, h2]; simp), if_neg he, if_neg hc]
theorem vwB_var (h : l < 0 ∨ (a.n : Int) ≤ l) : vwB a t u l = ((0, 0), (0, 0), 3) := if_pos h
theorem vwB_arg (h : ¬ (l < 0 ∨ (a.n : Int) ≤ l)) (h2 : a.leads 5 t u l = false) : vwB a t u l = ((0, 0), (0, 0), 1) := by
  unfold vwB; rw [if_neg h, if_pos h2]
theorem vwB_twice (h : ¬ (l < 0 ∨ (a.n : Int) ≤ l)) (h2 : a.leads 5 t u l = true) (hu : u = 0 ∨ l < (t : Int)) : vwB a t u l = ((t, u), (t, u), 0) := by
  unfold vwB; rw [if_neg h, if_neg (by rw [h2]; simp), if_pos hu]
theorem vwB_at {r : Rec} (h : ¬ (l < 0 ∨ (a.n : Int) ≤ l)) (h2 : a.leads 5 t u l = true) (hu : ¬ (u = 0 ∨ l < (t : Int))) (hr : a.node u = some r) (ht : (r.top : Int) = l) : vwB a t u l = ((r.lt, r.la), (r.ht, r.ha), 0) := by
  unfold vwB; rw [if_neg h, if_neg (by rw [h2]; simp), if_neg hu, hr]; exact if_pos ht
theorem vwB_off {r : Rec} (h : ¬ (l < 0 ∨ (a.n : Int) ≤ l)) (h2 : a.leads 5 t u l = true) (hu : ¬ (u = 0 ∨ l < (t : Int))) (hr : a.node u = some r) (ht : ¬ (r.top : Int) = l) : vwB a t u l = ((l.toNat + 1, u), (0, 0), 0) := by
  unfold vwB; rw [if_neg h, if_neg (by rw [h2]; simp), if_neg hu, hr]; exact if_neg ht
theorem vwB_none (h : ¬ (l < 0 ∨ (a.n : Int) ≤ l)) (h2 : a.leads 5 t u l = true) (hu : ¬ (u = 0 ∨ l < (t : Int))) (hr : a.node u = none) : vwB a t u l = ((l.toNat + 1, u), (0, 0), 0) := by
  unfold vwB; rw [if_neg h, if_neg (by rw [h2]; simp), if_neg hu, hr]
end
end StoreMath
