/- What a ZDD's Make and View come to over a store; nothing of the program. -/
import Derived.Test.YtbndmpklbdllkaaRfQ
namespace StoreMath
open ArenaMath IndexMath

/-- Make, of an edge's halves (each a tag and a place). -/
def mkB (a : Ab) (l : Int) (t1 u1 t2 u2 : Nat) : Ab × (Nat × Nat) × Nat :=
  if l < 0 ∨ (a.n : Int) ≤ l then (a, (0, 0), 3)
  else if a.leads 2 t1 u1 (l + 1) = false ∨ a.leads 2 t2 u2 (l + 1) = false then (a, (0, 0), 1)
  else if u2 = 0 then (a, (t1, u1), 0)
  else ((a.find ⟨2, l.toNat, l.toNat, t1, u1, t2, u2⟩).1, (0, (a.find ⟨2, l.toNat, l.toNat, t1, u1, t2, u2⟩).2.1), (a.find ⟨2, l.toNat, l.toNat, t1, u1, t2, u2⟩).2.2)
/-- View, of an edge. -/
def vwB (a : Ab) (t u : Nat) (l : Int) : (Nat × Nat) × (Nat × Nat) × Nat :=
  if l < 0 ∨ (a.n : Int) ≤ l then ((0, 0), (0, 0), 3)
  else if a.leads 2 t u l = false then ((0, 0), (0, 0), 1)
  else match a.node u with
    | some r => if (r.top : Int) = l then ((r.lt, r.la), (r.ht, r.ha), 0) else ((t, u), (0, 0), 0)
    | none => ((t, u), (0, 0), 0)
section
variable {a : Ab} {l : Int} {t u t1 u1 t2 u2 : Nat}
theorem mkB_var (h : l < 0 ∨ (a.n : Int) ≤ l) : mkB a l t1 u1 t2 u2 = (a, (0, 0), 3) := if_pos h
theorem mkB_arg (h : ¬ (l < 0 ∨ (a.n : Int) ≤ l)) (h2 : a.leads 2 t1 u1 (l + 1) = false ∨ a.leads 2 t2 u2 (l + 1) = false) : mkB a l t1 u1 t2 u2 = (a, (0, 0), 1) := by
  unfold mkB; rw [if_neg h, if_pos h2]
theorem mkB_same (h : ¬ (l < 0 ∨ (a.n : Int) ≤ l)) (h1 : a.leads 2 t1 u1 (l + 1) = true) (h2 : a.leads 2 t2 u2 (l + 1) = true) (he : u2 = 0) : mkB a l t1 u1 t2 u2 = (a, (t1, u1), 0) := by
  unfold mkB; rw [if_neg h, if_neg (by rw [h1, h2]; simp), if_pos he]
theorem mkB_find (h : ¬ (l < 0 ∨ (a.n : Int) ≤ l)) (h1 : a.leads 2 t1 u1 (l + 1) = true) (h2 : a.leads 2 t2 u2 (l + 1) = true) (he : ¬ u2 = 0) : mkB a l t1 u1 t2 u2 = ((a.find ⟨2, l.toNat, l.toNat, t1, u1, t2, u2⟩).1, (0, (a.find ⟨2, l.toNat, l.toNat, t1, u1, t2, u2⟩).2.1), (a.find ⟨2, l.toNat, l.toNat, t1, u1, t2, u2⟩).2.2) := by
  unfold mkB; rw [if_neg h, if_neg (by rw [h1, h2]; simp), if_neg he]
theorem vwB_var (h : l < 0 ∨ (a.n : Int) ≤ l) : vwB a t u l = ((0, 0), (0, 0), 3) := if_pos h
theorem vwB_arg (h : ¬ (l < 0 ∨ (a.n : Int) ≤ l)) (h2 : a.leads 2 t u l = false) : vwB a t u l = ((0, 0), (0, 0), 1) := by
  unfold vwB; rw [if_neg h, if_pos h2]
theorem vwB_at {r : Rec} (h : ¬ (l < 0 ∨ (a.n : Int) ≤ l)) (h2 : a.leads 2 t u l = true) (hr : a.node u = some r) (ht : (r.top : Int) = l) : vwB a t u l = ((r.lt, r.la), (r.ht, r.ha), 0) := by
  unfold vwB; rw [if_neg h, if_neg (by rw [h2]; simp), hr]; exact if_pos ht
theorem vwB_off {r : Rec} (h : ¬ (l < 0 ∨ (a.n : Int) ≤ l)) (h2 : a.leads 2 t u l = true) (hr : a.node u = some r) (ht : ¬ (r.top : Int) = l) : vwB a t u l = ((t, u), (0, 0), 0) := by
  unfold vwB; rw [if_neg h, if_neg (by rw [h2]; simp), hr]; exact if_neg ht
theorem vwB_none (h : ¬ (l < 0 ∨ (a.n : Int) ≤ l)) (h2 : a.leads 2 t u l = true) (hr : a.node u = none) : vwB a t u l = ((t, u), (0, 0), 0) := by
  unfold vwB; rw [if_neg h, if_neg (by rw [h2]; simp), hr]
end
end StoreMath
