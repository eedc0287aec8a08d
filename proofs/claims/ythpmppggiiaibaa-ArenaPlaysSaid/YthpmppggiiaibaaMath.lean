/- An arena as a list of slots and a list of dropped ids; what a call does to it; no statement of the seat, nothing of the program. -/
import Derived.WalkKit
namespace ArenaMath

/-- A slot: a thing, how often it is held, whether it is one. -/
structure Slot (X : Type) where
  thing : X
  held : Nat
  taken : Bool

/-- A slot that holds nothing. -/
def off {X : Type} (z : X) : Slot X := ⟨z, 0, false⟩

/-- Slots and dropped ids fit: what isn't taken is empty, and just these are the dropped ones, each once. -/
structure Fit {X : Type} (z : X) (sl : List (Slot X)) (dr : List Nat) : Prop where
  empty : ∀ (i : Nat) s, sl[i]? = some s → s.taken = false → s = off z
  nodup : dr.Nodup
  least : ∀ d, d ∈ dr → 2 ≤ d
  gone : ∀ i, i + 2 ∈ dr ↔ sl[i]? = some (off z)

section
variable {X : Type} {z : X} {sl : List (Slot X)} {dr : List Nat}

theorem Fit.nil (z : X) : Fit z [] [] := ⟨fun i s h => (by simp at h), List.nodup_nil, fun d h => (by cases h), fun i => by simp⟩

theorem taken_ne {x : X} {h : Nat} : (⟨x, h, true⟩ : Slot X) ≠ off z := by
  intro e
  have := congrArg Slot.taken e
  simp [off] at this

theorem set_at {l : List (Slot X)} {i j : Nat} {s : Slot X} (hi : i < l.length) : (l.set i s)[j]? = if i = j then some s else l[j]? := by
  rw [List.getElem?_set]
  by_cases h : i = j
  · subst h; simp [hi]
  · simp [h]

theorem Fit.fresh (f : Fit z sl dr) (x : X) : Fit z (sl ++ [⟨x, 0, true⟩]) dr := by
  have key : ∀ (i : Nat) s, (sl ++ [(⟨x, 0, true⟩ : Slot X)])[i]? = some s → s.taken = false → sl[i]? = some s := by
    intro i s h ht
    rcases Nat.lt_or_ge i sl.length with hl | hl
    · rwa [List.getElem?_append_left hl] at h
    · rw [List.getElem?_append_right hl] at h
      have h1 : i - sl.length = 0 := by
        rcases Nat.eq_zero_or_pos (i - sl.length) with h0 | h0
        · exact h0
        · rw [List.getElem?_eq_none (by simp; omega)] at h; cases h
      rw [h1] at h
      simp at h
      subst h
      cases ht
  refine ⟨fun i s h ht => f.empty i s (key i s h ht) ht, f.nodup, f.least, fun i => ⟨fun h => ?_, fun h => (f.gone i).2 (key i _ h rfl)⟩⟩
  have h1 := (f.gone i).1 h
  rw [List.getElem?_append_left (List.getElem?_eq_some_iff.1 h1).1]
  exact h1

theorem Fit.upd (f : Fit z sl dr) {i : Nat} {s : Slot X} (hi : sl[i]? = some s) (ht : s.taken = true) (x : X) (h : Nat) : Fit z (sl.set i ⟨x, h, true⟩) dr := by
  have hl := (List.getElem?_eq_some_iff.1 hi).1
  refine ⟨fun j u hj hu => ?_, f.nodup, f.least, fun j => ?_⟩
  · rw [set_at hl] at hj
    split at hj
    · injection hj with hj; subst hj; cases hu
    · exact f.empty j u hj hu
  · rw [set_at hl, f.gone j]
    split
    · next e =>
      subst e
      rw [hi]
      constructor
      · intro e; injection e with e; subst e; cases ht
      · intro e; injection e with e; exact absurd e taken_ne
    · exact Iff.rfl

theorem Fit.again {ds : List Nat} {i : Nat} (f : Fit z sl (ds ++ [i + 2])) (x : X) : Fit z (sl.set i ⟨x, 0, true⟩) ds ∧ sl[i]? = some (off z) ∧ i < sl.length := by
  have hi : sl[i]? = some (off z) := (f.gone i).1 (by simp)
  have hl := (List.getElem?_eq_some_iff.1 hi).1
  have hn := List.nodup_append.1 f.nodup
  refine ⟨⟨fun j u hj hu => ?_, hn.1, fun d hd => f.least d (by simp [hd]), fun j => ?_⟩, hi, hl⟩
  · rw [set_at hl] at hj
    split at hj
    · injection hj with hj; subst hj; cases hu
    · exact f.empty j u hj hu
  · rw [set_at hl]
    split
    · next e =>
      subst e
      constructor
      · intro h; exact absurd rfl (hn.2.2 _ h _ (by simp))
      · intro e; injection e with e; exact absurd e taken_ne
    · next e =>
      rw [← f.gone j]
      simp
      omega

theorem Fit.drop (f : Fit z sl dr) {i : Nat} {s : Slot X} (hi : sl[i]? = some s) (ht : s.taken = true) : Fit z (sl.set i (off z)) (dr ++ [i + 2]) := by
  have hl := (List.getElem?_eq_some_iff.1 hi).1
  have hnd : i + 2 ∉ dr := by
    intro h
    have := (f.gone i).1 h
    rw [hi] at this
    injection this with this
    subst this
    cases ht
  refine ⟨fun j u hj hu => ?_, ?_, ?_, fun j => ?_⟩
  · rw [set_at hl] at hj
    split at hj
    · injection hj with hj; exact hj.symm
    · exact f.empty j u hj hu
  · refine List.nodup_append.2 ⟨f.nodup, by simp, ?_⟩
    intro a ha b hb
    rw [List.mem_singleton] at hb
    subst hb
    intro e
    subst e
    exact hnd ha
  · intro d hd
    rcases List.mem_append.1 hd with h | h
    · exact f.least d h
    · rw [List.mem_singleton] at h; omega
  · rw [set_at hl]
    split
    · next e => subst e; simp
    · next e =>
      rw [← f.gone j]
      simp
      omega

theorem last_of {dr : List Nat} (h : dr ≠ []) : ∃ ds d, dr = ds ++ [d] := ⟨dr.dropLast, dr.getLast h, (List.dropLast_concat_getLast h).symm⟩

/-- The slot of an id. -/
def slotAt (sl : List (Slot X)) (id : Nat) : Option (Slot X) := if 2 ≤ id then (sl[id - 2]?).filter (·.taken) else none
theorem slotAt_some {id : Nat} {s : Slot X} (h : slotAt sl id = some s) : ∃ i, id = i + 2 ∧ sl[i]? = some s ∧ s.taken = true := by
  unfold slotAt at h
  split at h
  · obtain ⟨i, rfl⟩ : ∃ i, id = i + 2 := ⟨id - 2, by omega⟩
    refine ⟨i, rfl, ?_⟩
    rw [Nat.add_sub_cancel] at h
    rw [Option.filter_eq_some_iff] at h
    exact h
  · cases h
theorem slotAt_yes {i : Nat} {s : Slot X} (h : sl[i]? = some s) (ht : s.taken = true) : slotAt sl (i + 2) = some s := by
  unfold slotAt
  rw [if_pos (by omega), Nat.add_sub_cancel, h]
  simp [ht]
theorem slotAt_none {id : Nat} (h : slotAt sl id = none) : id < 2 ∨ ∃ i, id = i + 2 ∧ (sl.length ≤ i ∨ ∃ s, sl[i]? = some s ∧ s.taken = false) := by
  rcases Nat.lt_or_ge id 2 with h2 | h2
  · exact .inl h2
  · obtain ⟨i, rfl⟩ : ∃ i, id = i + 2 := ⟨id - 2, by omega⟩
    refine .inr ⟨i, rfl, ?_⟩
    rcases Nat.lt_or_ge i sl.length with hl | hl
    · right
      refine ⟨sl[i], List.getElem?_eq_getElem hl, ?_⟩
      cases ht : sl[i].taken with
      | false => rfl
      | true => rw [slotAt_yes (List.getElem?_eq_getElem hl) ht] at h; cases h
    · exact .inl hl

end

end ArenaMath
