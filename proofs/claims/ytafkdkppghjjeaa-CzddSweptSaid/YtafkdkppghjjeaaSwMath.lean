/- Nodes dropped one behind the other; which ones go; nothing of the program. -/
import Derived.Test.YtafkdkppghjjeaaMkMath
namespace MarkMath
open StoreMath ArenaMath

theorem node_drop {a : Ab} {id : Nat} {r : Rec} (h : nodeOf a.sl id = some r) (j : Nat) : nodeOf (a.drop id).sl j = if j = id then none else nodeOf a.sl j := by
  obtain ⟨s, h1, _⟩ := Option.map_eq_some_iff.1 h
  obtain ⟨i, rfl, h2, _⟩ := slotAt_some h1
  have hl := (List.getElem?_eq_some_iff.1 h2).1
  unfold nodeOf Ab.drop
  rw [Nat.add_sub_cancel, slotAt_set hl]
  by_cases e : j = i + 2
  · rw [if_pos e, if_pos e]; rfl
  · rw [if_neg e, if_neg e]
def dropAll (a : Ab) (l : List Nat) : Ab := l.foldl Ab.drop a
theorem dropAll_snoc (a : Ab) (l : List Nat) (d : Nat) : dropAll a (l ++ [d]) = (dropAll a l).drop d := by simp [dropAll]
theorem dropAll_node : ∀ (l : List Nat) (a : Ab), l.Nodup → (∀ id ∈ l, ∃ r, nodeOf a.sl id = some r) → ∀ j, nodeOf (dropAll a l).sl j = if j ∈ l then none else nodeOf a.sl j
  | [], a, _, _, j => by simp [dropAll]
  | d :: l, a, hn, h, j => by
    obtain ⟨r, hr⟩ := h d (by simp)
    have hn2 := List.nodup_cons.1 hn
    have hd := node_drop hr
    have ih := dropAll_node l (a.drop d) hn2.2 (fun id hid => by
      obtain ⟨q, hq⟩ := h id (by simp [hid])
      refine ⟨q, ?_⟩
      rw [hd id, if_neg (fun e : id = d => hn2.1 (by rw [← e]; exact hid))]
      exact hq) j
    show nodeOf (dropAll (a.drop d) l).sl j = _
    rw [ih, hd j]
    by_cases e1 : j ∈ l
    · rw [if_pos e1, if_pos (by simp [e1])]
    · rw [if_neg e1]
      by_cases e2 : j = d
      · subst e2; rw [if_pos rfl, if_pos (by simp)]
      · rw [if_neg e2, if_neg (by simp [e1, e2])]
theorem dropAll_len (l : List Nat) (a : Ab) : (dropAll a l).sl.length = a.sl.length ∧ (dropAll a l).dr = a.dr ++ l ∧ (dropAll a l).n = a.n ∧ (dropAll a l).room = a.room := by
  induction l generalizing a with
  | nil => simp [dropAll]
  | cons d l ih =>
    obtain ⟨h1, h2, h3, h4⟩ := ih (a.drop d)
    refine ⟨?_, ?_, h3, h4⟩
    · show (dropAll (a.drop d) l).sl.length = _
      rw [h1]; simp [Ab.drop]
    · show (dropAll (a.drop d) l).dr = _
      rw [h2]; simp [Ab.drop]
/-- The ids that go: of nodes, and not marked. -/
def goesP (sl : List (Slot Rec)) (p : Nat → Bool) : List Nat := ((List.range sl.length).filter fun i => (nodeOf sl (i + 2)).isSome && !p (i + 2)).map fun i => i + 2
theorem goes_mem {sl : List (Slot Rec)} {p : Nat → Bool} {id : Nat} : id ∈ goesP sl p ↔ (∃ r, nodeOf sl id = some r) ∧ p id = false := by
  unfold goesP
  rw [List.mem_map]
  constructor
  · rintro ⟨i, h1, rfl⟩
    have := (List.mem_filter.1 h1).2
    simp only [Bool.and_eq_true, Bool.not_eq_true'] at this
    exact ⟨Option.isSome_iff_exists.1 this.1, this.2⟩
  · rintro ⟨⟨r, hr⟩, hp⟩
    obtain ⟨h2, h3⟩ := node_lt hr
    refine ⟨id - 2, List.mem_filter.2 ⟨by simp; omega, ?_⟩, by omega⟩
    rw [show id - 2 + 2 = id by omega, hr, hp]; rfl
theorem goes_nodup (sl : List (Slot Rec)) (p : Nat → Bool) : (goesP sl p).Nodup := by
  unfold goesP
  refine List.Pairwise.map _ ?_ (List.Pairwise.filter _ List.nodup_range)
  intro x y h e
  exact h (by omega)
theorem goes_congr {sl : List (Slot Rec)} {p q : Nat → Bool} (h : ∀ id, p id = q id) : goesP sl p = goesP sl q := by
  have : p = q := funext h
  rw [this]
theorem taken_node (sl : List (Slot Rec)) (i : Nat) : ((sl[i]?).any fun s => s.taken) = (nodeOf sl (i + 2)).isSome := by
  unfold nodeOf slotAt
  rw [if_pos (by omega), Nat.add_sub_cancel]
  cases h : sl[i]? with
  | none => rfl
  | some s => cases ht : s.taken <;> simp [Option.filter, ht]
end MarkMath
