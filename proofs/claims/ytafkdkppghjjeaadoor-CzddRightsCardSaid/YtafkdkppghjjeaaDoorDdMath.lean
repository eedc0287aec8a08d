/- What a CZDD's Make, View and Right come to over a store; nothing of the program. -/
import Derived.Test.YtafkdkppghjjeaaDoorRfQ
import Derived.Test.YtafkdkppghjjeaaDoorMkMath
namespace StoreMath
open ArenaMath IndexMath MarkMath

/-- Does a chain that ends at this level, with these halves, go on in the node that both lead to? That node's record. -/
def onB (a : Ab) (b : Int) (t1 u1 t2 u2 : Nat) : Option Rec :=
  match a.node u1 with
  | some r => if (t1 = t2 ∧ u1 = u2) ∧ (r.top : Int) = b + 1 then some r else none
  | none => none
/-- The record of the node that begins at a level and has these halves. -/
def recB (a : Ab) (l t1 u1 t2 u2 : Nat) : Rec :=
  match onB a (l : Int) t1 u1 t2 u2 with
  | some r => ⟨4, l, r.bot, r.lt, r.la, r.ht, r.ha⟩
  | none => ⟨4, l, l, t1, u1, t2, u2⟩
/-- The record of the rest of a chain. -/
def restB (r : Rec) : Rec := ⟨4, r.top + 1, r.bot, r.lt, r.la, r.ht, r.ha⟩
/-- Make, of an edge's halves (each a tag and a place). -/
def mkB (a : Ab) (l : Int) (t1 u1 t2 u2 : Nat) : Ab × (Nat × Nat) × Nat :=
  if l < 0 ∨ (a.n : Int) ≤ l then (a, (0, 0), 3)
  else if a.leads 4 t1 u1 (l + 1) = false ∨ a.leads 4 t2 u2 (l + 1) = false then (a, (0, 0), 1)
  else if u2 = 0 then (a, (t1, u1), 0)
  else ((a.find (recB a l.toNat t1 u1 t2 u2)).1, (0, (a.find (recB a l.toNat t1 u1 t2 u2)).2.1), (a.find (recB a l.toNat t1 u1 t2 u2)).2.2)
/-- What View tells of a node at the level. -/
def openB (a : Ab) (r : Rec) : Ab × (Nat × Nat) × (Nat × Nat) × Nat :=
  if r.top = r.bot then (a, (r.lt, r.la), (r.ht, r.ha), 0)
  else if (a.find (restB r)).2.2 = 0 then ((a.find (restB r)).1, (0, (a.find (restB r)).2.1), (0, (a.find (restB r)).2.1), 0)
  else ((a.find (restB r)).1, (0, 0), (0, 0), (a.find (restB r)).2.2)
/-- View, of an edge. -/
def vwB (a : Ab) (t u : Nat) (l : Int) : Ab × (Nat × Nat) × (Nat × Nat) × Nat :=
  if l < 0 ∨ (a.n : Int) ≤ l then (a, (0, 0), (0, 0), 3)
  else if a.leads 4 t u l = false then (a, (0, 0), (0, 0), 1)
  else match a.node u with
    | some r => if (r.top : Int) = l then openB a r else (a, (t, u), (0, 0), 0)
    | none => (a, (t, u), (0, 0), 0)
/-- Of each node that is reached: its chain doesn't go on in the node of its halves. -/
def Cuts (a : Ab) (u : Nat) : Prop := ∀ id r, Reached a.sl (fun x => x = u) id → nodeOf a.sl id = some r → onB a (r.bot : Int) r.lt r.la r.ht r.ha = none
/-- Right, of an edge. -/
noncomputable def rgB (a : Ab) (t u : Nat) (l : Int) : Bool := a.leads 4 t u l && @decide (Cuts a u) (Classical.propDecidable _)
theorem rgB_iff {a : Ab} {t u : Nat} {l : Int} : rgB a t u l = true ↔ a.leads 4 t u l = true ∧ Cuts a u := by
  unfold rgB
  rw [Bool.and_eq_true]
  exact and_congr Iff.rfl (@decide_eq_true_iff _ (Classical.propDecidable _))
section
variable {a : Ab} {l : Int} {t u t1 u1 t2 u2 : Nat}
theorem onB_none (h : a.node u1 = none) {b : Int} : onB a b t1 u1 t2 u2 = none := by unfold onB; rw [h]
theorem onB_yes {r : Rec} (h : a.node u1 = some r) {b : Int} (hc : (t1 = t2 ∧ u1 = u2) ∧ (r.top : Int) = b + 1) : onB a b t1 u1 t2 u2 = some r := by unfold onB; rw [h]; exact if_pos hc
theorem onB_no {r : Rec} (h : a.node u1 = some r) {b : Int} (hc : ¬ ((t1 = t2 ∧ u1 = u2) ∧ (r.top : Int) = b + 1)) : onB a b t1 u1 t2 u2 = none := by unfold onB; rw [h]; exact if_neg hc
theorem onB_off {b : Int} (hc : ¬ (t1 = t2 ∧ u1 = u2)) : onB a b t1 u1 t2 u2 = none := by
  cases hn : a.node u1 with
  | none => exact onB_none hn
  | some r => exact onB_no hn (fun h => hc h.1)
theorem onB_some {r : Rec} {b : Int} (h : onB a b t1 u1 t2 u2 = some r) : a.node u1 = some r ∧ (t1 = t2 ∧ u1 = u2) ∧ (r.top : Int) = b + 1 := by
  cases hn : a.node u1 with
  | none => rw [onB_none hn] at h; cases h
  | some q =>
    by_cases hc : (t1 = t2 ∧ u1 = u2) ∧ (q.top : Int) = b + 1
    · rw [onB_yes hn hc] at h
      injection h with h
      subst h
      exact ⟨rfl, hc⟩
    · rw [onB_no hn hc] at h; cases h
theorem mkB_var (h : l < 0 ∨ (a.n : Int) ≤ l) : mkB a l t1 u1 t2 u2 = (a, (0, 0), 3) := if_pos h
theorem mkB_arg (h : ¬ (l < 0 ∨ (a.n : Int) ≤ l)) (h2 : a.leads 4 t1 u1 (l + 1) = false ∨ a.leads 4 t2 u2 (l + 1) = false) : mkB a l t1 u1 t2 u2 = (a, (0, 0), 1) := by
  unfold mkB; rw [if_neg h, if_pos h2]
theorem mkB_same (h : ¬ (l < 0 ∨ (a.n : Int) ≤ l)) (h1 : a.leads 4 t1 u1 (l + 1) = true) (h2 : a.leads 4 t2 u2 (l + 1) = true) (he : u2 = 0) : mkB a l t1 u1 t2 u2 = (a, (t1, u1), 0) := by
  unfold mkB; rw [if_neg h, if_neg (by rw [h1, h2]; simp), if_pos he]
theorem mkB_find (h : ¬ (l < 0 ∨ (a.n : Int) ≤ l)) (h1 : a.leads 4 t1 u1 (l + 1) = true) (h2 : a.leads 4 t2 u2 (l + 1) = true) (he : ¬ u2 = 0) : mkB a l t1 u1 t2 u2 = ((a.find (recB a l.toNat t1 u1 t2 u2)).1, (0, (a.find (recB a l.toNat t1 u1 t2 u2)).2.1), (a.find (recB a l.toNat t1 u1 t2 u2)).2.2) := by
  unfold mkB; rw [if_neg h, if_neg (by rw [h1, h2]; simp), if_neg he]
theorem vwB_var (h : l < 0 ∨ (a.n : Int) ≤ l) : vwB a t u l = (a, (0, 0), (0, 0), 3) := if_pos h
theorem vwB_arg (h : ¬ (l < 0 ∨ (a.n : Int) ≤ l)) (h2 : a.leads 4 t u l = false) : vwB a t u l = (a, (0, 0), (0, 0), 1) := by
  unfold vwB; rw [if_neg h, if_pos h2]
theorem vwB_at {r : Rec} (h : ¬ (l < 0 ∨ (a.n : Int) ≤ l)) (h2 : a.leads 4 t u l = true) (hr : a.node u = some r) (ht : (r.top : Int) = l) : vwB a t u l = openB a r := by
  unfold vwB; rw [if_neg h, if_neg (by rw [h2]; simp), hr]; exact if_pos ht
theorem vwB_off {r : Rec} (h : ¬ (l < 0 ∨ (a.n : Int) ≤ l)) (h2 : a.leads 4 t u l = true) (hr : a.node u = some r) (ht : ¬ (r.top : Int) = l) : vwB a t u l = (a, (t, u), (0, 0), 0) := by
  unfold vwB; rw [if_neg h, if_neg (by rw [h2]; simp), hr]; exact if_neg ht
theorem vwB_none (h : ¬ (l < 0 ∨ (a.n : Int) ≤ l)) (h2 : a.leads 4 t u l = true) (hr : a.node u = none) : vwB a t u l = (a, (t, u), (0, 0), 0) := by
  unfold vwB; rw [if_neg h, if_neg (by rw [h2]; simp), hr]
theorem openB_one {r : Rec} (h : r.top = r.bot) : openB a r = (a, (r.lt, r.la), (r.ht, r.ha), 0) := if_pos h
theorem openB_err {r : Rec} (h : ¬ r.top = r.bot) (he : ¬ (a.find (restB r)).2.2 = 0) : openB a r = ((a.find (restB r)).1, (0, 0), (0, 0), (a.find (restB r)).2.2) := by
  unfold openB; rw [if_neg h, if_neg he]
theorem openB_rest {r : Rec} (h : ¬ r.top = r.bot) (he : (a.find (restB r)).2.2 = 0) : openB a r = ((a.find (restB r)).1, (0, (a.find (restB r)).2.1), (0, (a.find (restB r)).2.1), 0) := by
  unfold openB; rw [if_neg h, if_pos he]
theorem recB_on {r : Rec} {k : Nat} (h : onB a (k : Int) t1 u1 t2 u2 = some r) : recB a k t1 u1 t2 u2 = ⟨4, k, r.bot, r.lt, r.la, r.ht, r.ha⟩ := by unfold recB; rw [h]
theorem recB_one {k : Nat} (h : onB a (k : Int) t1 u1 t2 u2 = none) : recB a k t1 u1 t2 u2 = ⟨4, k, k, t1, u1, t2, u2⟩ := by unfold recB; rw [h]
end
end StoreMath
