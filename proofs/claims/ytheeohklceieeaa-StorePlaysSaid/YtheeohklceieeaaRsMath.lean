/- What stays and what goes at a sweep, in the order of the ids; nothing of the program. -/
import Derived.Test.YtheeohklceieeaaRfQ
namespace MarkMath
open StoreMath ArenaMath

/-- The node of a slot, if it is one and p says so. -/
def stayAt (sl : List (Slot Rec)) (p : Nat → Bool) (i : Nat) : List Nn := match nodeOf sl (i + 2) with
  | some r => if p (i + 2) then [⟨i + 2, r⟩] else []
  | none => []
def goneAt (sl : List (Slot Rec)) (p : Nat → Bool) (i : Nat) : List Nat := if (nodeOf sl (i + 2)).isSome && !p (i + 2) then [i + 2] else []
def stayTo (sl : List (Slot Rec)) (p : Nat → Bool) (k : Nat) : List Nn := (List.range k).flatMap (stayAt sl p)
def goneTo (sl : List (Slot Rec)) (p : Nat → Bool) (k : Nat) : List Nat := (List.range k).flatMap (goneAt sl p)
section
variable {sl : List (Slot Rec)} {p : Nat → Bool} {k : Nat}
theorem stayTo_succ : stayTo sl p (k + 1) = stayTo sl p k ++ stayAt sl p k := by unfold stayTo; rw [List.range_succ, List.flatMap_append]; simp
theorem goneTo_succ : goneTo sl p (k + 1) = goneTo sl p k ++ goneAt sl p k := by unfold goneTo; rw [List.range_succ, List.flatMap_append]; simp
theorem stayAt_len (i : Nat) : (stayAt sl p i).length + (goneAt sl p i).length ≤ 1 := by
  unfold stayAt goneAt
  cases nodeOf sl (i + 2) with
  | none => simp
  | some r => cases p (i + 2) <;> simp
theorem stayTo_len (k : Nat) : (stayTo sl p k).length + (goneTo sl p k).length ≤ k := by
  induction k with
  | zero => simp [stayTo, goneTo]
  | succ k ih =>
    rw [stayTo_succ, goneTo_succ, List.length_append, List.length_append]
    have := stayAt_len (sl := sl) (p := p) k
    omega
theorem goneTo_goes : goneTo sl p sl.length = goesP sl p := by
  unfold goneTo goesP
  generalize List.range sl.length = l
  induction l with
  | nil => rfl
  | cons i l ih =>
    rw [List.flatMap_cons, ih]
    unfold goneAt
    by_cases h : ((nodeOf sl (i + 2)).isSome && !p (i + 2)) = true
    · rw [if_pos h, List.filter_cons, if_pos h]; rfl
    · rw [if_neg h, List.filter_cons, if_neg h]; rfl
theorem stay_mem {t : Nn} : t ∈ stayTo sl p k ↔ (∃ i, i < k ∧ t.id = i + 2) ∧ nodeOf sl t.id = some t.r ∧ p t.id = true := by
  unfold stayTo
  rw [List.mem_flatMap]
  constructor
  · rintro ⟨i, hi, ht⟩
    unfold stayAt at ht
    cases hn : nodeOf sl (i + 2) with
    | none => rw [hn] at ht; simp at ht
    | some r =>
      rw [hn] at ht
      cases hp : p (i + 2) with
      | false => simp [hp] at ht
      | true =>
        simp [hp] at ht
        subst ht
        exact ⟨⟨i, by simpa using hi, rfl⟩, hn, hp⟩
  · rintro ⟨⟨i, hi, he⟩, hn, hp⟩
    refine ⟨i, by simpa using hi, ?_⟩
    unfold stayAt
    rw [he] at hn hp
    rw [hn, hp]
    simp [← he]
theorem stay_ids : (stayTo sl p k).Pairwise (fun a b => a.id < b.id) := by
  induction k with
  | zero => simp [stayTo]
  | succ k ih =>
    rw [stayTo_succ, List.pairwise_append]
    refine ⟨ih, ?_, fun a ha b hb => ?_⟩
    · unfold stayAt
      cases nodeOf sl (k + 2) with
      | none => simp
      | some r => cases p (k + 2) <;> simp
    · obtain ⟨⟨i, hi, he⟩, _⟩ := stay_mem.1 ha
      have : b.id = k + 2 := by
        unfold stayAt at hb
        cases hn : nodeOf sl (k + 2) with
        | none => rw [hn] at hb; simp at hb
        | some r =>
          rw [hn] at hb
          cases hp : p (k + 2) with
          | false => simp [hp] at hb
          | true => simp [hp] at hb; rw [hb]
      omega
end
/-- Behind a sweep the list of what stays says what the store says. -/
theorem like_swept {a : Ab} {S : Nat → Prop} (hob : (dropAll a (goesP a.sl (pR a.sl S))).Ok) : Like (dropAll a (goesP a.sl (pR a.sl S))) (stayTo a.sl (pR a.sl S) a.sl.length) := by
  have hnode : ∀ j, nodeOf (dropAll a (goesP a.sl (pR a.sl S))).sl j = if pR a.sl S j = true then nodeOf a.sl j else none := fun j => by
    rw [dropAll_node _ a (goes_nodup _ _) (fun id hid => (goes_mem.1 hid).1) j]
    by_cases e : j ∈ goesP a.sl (pR a.sl S)
    · rw [if_pos e, if_neg (by rw [(goes_mem.1 e).2]; decide)]
    · rw [if_neg e]
      by_cases hb : pR a.sl S j = true
      · rw [if_pos hb]
      · rw [if_neg hb]
        cases hn : nodeOf a.sl j with
        | none => rfl
        | some q => exact absurd (goes_mem.2 ⟨⟨q, hn⟩, by simpa using hb⟩) e
  refine ⟨fun i j t u hi hj e => ?_, fun t ht => ?_, fun id r hr => ?_, ?_⟩
  · obtain ⟨li, ei⟩ := List.getElem?_eq_some_iff.1 hi
    obtain ⟨lj, ej⟩ := List.getElem?_eq_some_iff.1 hj
    have hp := List.pairwise_iff_getElem.1 (stay_ids (sl := a.sl) (p := pR a.sl S) (k := a.sl.length))
    rcases Nat.lt_trichotomy i j with h | h | h
    · have := hp i j li lj h; rw [ei, ej] at this; omega
    · exact h
    · have := hp j i lj li h; rw [ei, ej] at this; omega
  · obtain ⟨_, h2, h3⟩ := stay_mem.1 ht
    rw [hnode, if_pos h3]; exact h2
  · rw [hnode] at hr
    by_cases hp : pR a.sl S id = true
    · rw [if_pos hp] at hr
      obtain ⟨h1, h2⟩ := node_lt hr
      exact stay_mem.2 ⟨⟨id - 2, by omega, by show id = _; omega⟩, hr, hp⟩
    · rw [if_neg hp] at hr; cases hr
  · have hc := ids_count hob
    rw [← hc]
    congr 1
    obtain ⟨hl, -⟩ := dropAll_len (goesP a.sl (pR a.sl S)) a
    unfold Go.Proofs.Ytheeohklceieeaa.Ar.idsTo
    rw [List.length_map, hl]
    unfold stayTo
    generalize List.range a.sl.length = l
    induction l with
    | nil => rfl
    | cons i l ih =>
      rw [List.flatMap_cons, List.length_append, ih]
      have h1 := taken_node (dropAll a (goesP a.sl (pR a.sl S))).sl i
      rw [hnode] at h1
      unfold stayAt
      cases hn : nodeOf a.sl (i + 2) with
      | none =>
        rw [List.filter_cons_of_neg (by rw [h1, hn]; simp)]; simp
      | some r =>
        cases hp : pR a.sl S (i + 2) with
        | false => rw [List.filter_cons_of_neg (by rw [h1, hp]; simp)]; simp
        | true => rw [List.filter_cons_of_pos (by rw [h1, hp, hn]; rfl)]; simp; omega
end MarkMath
