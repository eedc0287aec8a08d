/- ArenaPlays: an arena's slots beside the document's list of things; nothing of the program. -/
import Derived.Test.YthpmppggiiaibaaMath
namespace ArenaMath

/-- A thing of the document's list. -/
structure Th where
  id : Nat
  x : Int
  held : Nat

/-- The place of an id in the list. -/
def Pos (L : List Th) (id : Nat) (i : Nat) : Prop := ∃ t, L[i]? = some t ∧ t.id = id
def Non (L : List Th) (id : Nat) : Prop := ∀ t ∈ L, t.id ≠ id

/-- The arena and the list say the same, behind k acts. -/
structure Like (sl : List (Slot Int)) (dr : List Nat) (L : List Th) (k room : Nat) : Prop where
  fit : Fit 0 sl dr
  nod : ∀ (i j : Nat) t u, L[i]? = some t → L[j]? = some u → t.id = u.id → i = j
  inn : ∀ t ∈ L, slotAt sl t.id = some ⟨t.x, t.held, true⟩
  out : ∀ id s, slotAt sl id = some s → ∃ i, Pos L id i
  cnt : L.length + dr.length = sl.length
  len : sl.length ≤ k
  hel : ∀ t ∈ L, t.held ≤ k
  rm : L.length ≤ room

theorem Like.start (room : Nat) : Like [] [] [] 0 room :=
  ⟨Fit.nil 0, fun i j t u h => (by simp at h), fun t h => (by cases h), fun id s h => (by obtain ⟨i, _, h1, _⟩ := slotAt_some h; simp at h1), rfl, Nat.le_refl _, fun t h => (by cases h), Nat.zero_le _⟩

section
variable {sl : List (Slot Int)} {dr : List Nat} {L : List Th} {k room : Nat}
theorem Like.pos (h : Like sl dr L k room) {id i : Nat} (hp : Pos L id i) : ∃ t, L[i]? = some t ∧ t.id = id ∧ slotAt sl id = some ⟨t.x, t.held, true⟩ ∧ ∀ j u, j < i → L[j]? = some u → u.id ≠ id := by
  obtain ⟨t, ht, hid⟩ := hp
  refine ⟨t, ht, hid, by rw [← hid]; exact h.inn t (List.mem_of_getElem? ht), fun j u hj hu e => ?_⟩
  have := h.nod j i u t hu ht (by rw [e, hid])
  omega
theorem Like.cases (h : Like sl dr L k room) (id : Nat) : (∃ i, Pos L id i) ∨ (Non L id ∧ slotAt sl id = none) := by
  cases hs : slotAt sl id with
  | some s => exact .inl (h.out id s hs)
  | none =>
    refine .inr ⟨fun t ht e => ?_, rfl⟩
    have := h.inn t ht
    rw [e, hs] at this
    cases this
theorem Like.later (h : Like sl dr L k room) : Like sl dr L (k + 1) room :=
  ⟨h.fit, h.nod, h.inn, h.out, h.cnt, Nat.le_succ_of_le h.len, fun t ht => Nat.le_succ_of_le (h.hel t ht), h.rm⟩

theorem slotAt_set {d : Nat} {s : Slot Int} (hd : d < sl.length) (id : Nat) : slotAt (sl.set d s) id = if id = d + 2 then (if s.taken = true then some s else none) else slotAt sl id := by
  unfold slotAt
  by_cases h2 : 2 ≤ id
  · obtain ⟨i, rfl⟩ : ∃ i, id = i + 2 := ⟨id - 2, by omega⟩
    rw [if_pos h2, if_pos h2, Nat.add_sub_cancel, set_at hd]
    by_cases e : d = i
    · subst e
      cases hs : s.taken <;> simp [hs]
    · rw [if_neg e, if_neg (by omega)]
  · rw [if_neg h2, if_neg h2, if_neg (by omega)]
theorem slotAt_snoc {s : Slot Int} (id : Nat) : slotAt (sl ++ [s]) id = if id = sl.length + 2 then (if s.taken = true then some s else none) else slotAt sl id := by
  unfold slotAt
  by_cases h2 : 2 ≤ id
  · obtain ⟨i, rfl⟩ : ∃ i, id = i + 2 := ⟨id - 2, by omega⟩
    rw [if_pos h2, if_pos h2, Nat.add_sub_cancel]
    by_cases e : i = sl.length
    · subst e
      cases hs : s.taken <;> simp [hs]
    · rw [if_neg (by omega)]
      rcases Nat.lt_or_ge i sl.length with hl | hl
      · rw [List.getElem?_append_left hl]
      · rw [List.getElem?_eq_none (by simp; omega), List.getElem?_eq_none hl]
  · rw [if_neg h2, if_neg h2, if_neg (by omega)]

theorem snoc_at {t : Th} {i : Nat} {u : Th} (h : (L ++ [t])[i]? = some u) : (L[i]? = some u) ∨ (i = L.length ∧ u = t) := by
  rcases Nat.lt_or_ge i L.length with hl | hl
  · rw [List.getElem?_append_left hl] at h; exact .inl h
  · have he : i = L.length := by
      have := (List.getElem?_eq_some_iff.1 h).1
      simp at this
      omega
    subst he
    simp at h
    exact .inr ⟨rfl, h.symm⟩

/-- A thing is put under the id d. -/
theorem Like.put {sl' : List (Slot Int)} {dr' : List Nat} {d : Nat} {x : Int} (h : Like sl dr L k room) (hf : Fit 0 sl' dr') (hs : ∀ id, slotAt sl' id = if id = d then some ⟨x, 0, true⟩ else slotAt sl id) (hd : slotAt sl d = none) (hc : L.length + 1 + dr'.length = sl'.length) (hl : sl'.length ≤ k + 1) (hr : L.length < room) :
    Like sl' dr' (L ++ [⟨d, x, 0⟩]) (k + 1) room := by
  have hne : ∀ t ∈ L, t.id ≠ d := fun t ht e => by
    have := h.inn t ht
    rw [e, hd] at this
    cases this
  refine ⟨hf, fun i j t u hi hj e => ?_, fun t ht => ?_, fun id s hid => ?_, by simp; omega, hl, fun t ht => ?_, by simp; omega⟩
  · rcases snoc_at hi with hi | ⟨hi, rfl⟩ <;> rcases snoc_at hj with hj | ⟨hj, rfl⟩
    · exact h.nod i j t u hi hj e
    · exact absurd e (hne t (List.mem_of_getElem? hi))
    · exact absurd e.symm (hne u (List.mem_of_getElem? hj))
    · omega
  · rw [hs]
    rcases List.mem_append.1 ht with ht | ht
    · rw [if_neg (hne t ht)]; exact h.inn t ht
    · rw [List.mem_singleton] at ht; subst ht; simp
  · rw [hs] at hid
    by_cases e : id = d
    · subst e
      exact ⟨L.length, ⟨id, x, 0⟩, by simp, rfl⟩
    · rw [if_neg e] at hid
      obtain ⟨i, t, ht, he⟩ := h.out id s hid
      exact ⟨i, t, by rw [List.getElem?_append_left (List.getElem?_eq_some_iff.1 ht).1]; exact ht, he⟩
  · rcases List.mem_append.1 ht with ht | ht
    · exact Nat.le_succ_of_le (h.hel t ht)
    · rw [List.mem_singleton] at ht; subst ht; exact Nat.zero_le _
theorem Like.fresh (h : Like sl [] L k room) (x : Int) (hr : L.length < room) : Like (sl ++ [⟨x, 0, true⟩]) [] (L ++ [⟨sl.length + 2, x, 0⟩]) (k + 1) room := by
  have hc := h.cnt
  refine h.put (h.fit.fresh x) (fun id => by rw [slotAt_snoc]; rfl) ?_ (by simp at hc ⊢; omega) (by have := h.len; simp; omega) hr
  unfold slotAt
  simp
theorem Like.again {ds : List Nat} {d : Nat} (h : Like sl (ds ++ [d + 2]) L k room) (x : Int) (hr : L.length < room) : Like (sl.set d ⟨x, 0, true⟩) ds (L ++ [⟨d + 2, x, 0⟩]) (k + 1) room := by
  obtain ⟨hf, hoff, hdl⟩ := h.fit.again x
  have hc := h.cnt
  refine h.put hf (fun id => by rw [slotAt_set hdl]; rfl) ?_ (by simp at hc ⊢; omega) (by have := h.len; simp; omega) hr
  unfold slotAt
  rw [if_pos (by omega), Nat.add_sub_cancel, hoff]
  rfl

theorem list_set_at {i : Nat} {t : Th} (hi : i < L.length) (j : Nat) : (L.set i t)[j]? = if i = j then some t else L[j]? := by
  rw [List.getElem?_set]
  by_cases e : i = j
  · subst e; simp [hi]
  · simp [e]
/-- A thing's parts turn. -/
theorem Like.upd (h : Like sl dr L k room) {i d : Nat} {t : Th} (ht : L[i]? = some t) (hid : t.id = d + 2) (x : Int) (n : Nat) (hn : n ≤ k + 1) : Like (sl.set d ⟨x, n, true⟩) dr (L.set i ⟨d + 2, x, n⟩) (k + 1) room := by
  have hil := (List.getElem?_eq_some_iff.1 ht).1
  have hs := h.inn t (List.mem_of_getElem? ht)
  rw [hid] at hs
  obtain ⟨d', he, h1, h2⟩ := slotAt_some hs
  obtain rfl : d = d' := by omega
  have hdl := (List.getElem?_eq_some_iff.1 h1).1
  have mem : ∀ u ∈ L.set i ⟨d + 2, x, n⟩, u = ⟨d + 2, x, n⟩ ∨ (u ∈ L ∧ u.id ≠ d + 2) := by
    intro u hu
    obtain ⟨j, hj⟩ := List.getElem?_of_mem hu
    rw [list_set_at hil] at hj
    by_cases e : i = j
    · rw [if_pos e] at hj; injection hj with hj; exact .inl hj.symm
    · rw [if_neg e] at hj
      refine .inr ⟨List.mem_of_getElem? hj, fun e' => e (h.nod i j t u ht hj (by rw [hid, e']))⟩
  refine ⟨h.fit.upd h1 rfl x n, fun a b u v ha hb e => ?_, fun u hu => ?_, fun id s hid' => ?_, by rw [List.length_set, List.length_set]; exact h.cnt, by rw [List.length_set]; exact Nat.le_succ_of_le h.len, fun u hu => ?_, by rw [List.length_set]; exact h.rm⟩
  · rw [list_set_at hil] at ha hb
    have key : ∀ (a : Nat) u, (if i = a then some (⟨d + 2, x, n⟩ : Th) else L[a]?) = some u → ∃ u', L[a]? = some u' ∧ u'.id = u.id := by
      intro a u ha
      by_cases e : i = a
      · rw [if_pos e] at ha; injection ha with ha; subst ha; subst e; exact ⟨t, ht, hid⟩
      · rw [if_neg e] at ha; exact ⟨u, ha, rfl⟩
    obtain ⟨u', hu', eu⟩ := key a u ha
    obtain ⟨v', hv', ev⟩ := key b v hb
    exact h.nod a b u' v' hu' hv' (by rw [eu, ev, e])
  · rw [slotAt_set hdl]
    rcases mem u hu with rfl | ⟨hu, hne⟩
    · simp
    · rw [if_neg hne]; exact h.inn u hu
  · rw [slotAt_set hdl] at hid'
    by_cases e : id = d + 2
    · subst e
      exact ⟨i, ⟨d + 2, x, n⟩, by rw [list_set_at hil, if_pos rfl], rfl⟩
    · rw [if_neg e] at hid'
      obtain ⟨j, u, hu, he⟩ := h.out id s hid'
      refine ⟨j, u, ?_, he⟩
      rw [list_set_at hil, if_neg]
      · exact hu
      · intro e'
        subst e'
        rw [ht] at hu
        injection hu with hu
        subst hu
        omega
  · rcases mem u hu with rfl | ⟨hu, _⟩
    · exact hn
    · exact Nat.le_succ_of_le (h.hel u hu)

/-- A thing goes. -/
theorem Like.drop (h : Like sl dr L k room) {i d : Nat} {t : Th} (ht : L[i]? = some t) (hid : t.id = d + 2) : Like (sl.set d (off 0)) (dr ++ [d + 2]) (L.eraseIdx i) (k + 1) room := by
  have hil := (List.getElem?_eq_some_iff.1 ht).1
  have hs := h.inn t (List.mem_of_getElem? ht)
  rw [hid] at hs
  obtain ⟨d', he, h1, h2⟩ := slotAt_some hs
  obtain rfl : d = d' := by omega
  have hdl := (List.getElem?_eq_some_iff.1 h1).1
  have era : ∀ (j : Nat), (L.eraseIdx i)[j]? = if j < i then L[j]? else L[j + 1]? := fun j => List.getElem?_eraseIdx
  have hlen : (L.eraseIdx i).length = L.length - 1 := List.length_eraseIdx_of_lt hil
  have hc := h.cnt
  have mem : ∀ u ∈ L.eraseIdx i, u ∈ L ∧ u.id ≠ d + 2 := by
    intro u hu
    obtain ⟨j, hj⟩ := List.getElem?_of_mem hu
    rw [era] at hj
    by_cases e : j < i
    · rw [if_pos e] at hj
      refine ⟨List.mem_of_getElem? hj, fun e' => ?_⟩
      have := h.nod i j t u ht hj (by rw [hid, e'])
      omega
    · rw [if_neg e] at hj
      refine ⟨List.mem_of_getElem? hj, fun e' => ?_⟩
      have := h.nod i (j + 1) t u ht hj (by rw [hid, e'])
      omega
  refine ⟨h.fit.drop h1 rfl, fun a b u v ha hb e => ?_, fun u hu => ?_, fun id s hid' => ?_, by rw [hlen, List.length_set]; simp; omega, by rw [List.length_set]; exact Nat.le_succ_of_le h.len, fun u hu => Nat.le_succ_of_le (h.hel u (mem u hu).1), by rw [hlen]; have := h.rm; omega⟩
  · rw [era] at ha hb
    have key : ∀ (a : Nat) u, (if a < i then L[a]? else L[a + 1]?) = some u → L[if a < i then a else a + 1]? = some u := by
      intro a u ha
      split at ha
      · next e => rw [if_pos e]; exact ha
      · next e => rw [if_neg e]; exact ha
    have := h.nod _ _ u v (key a u ha) (key b v hb) e
    split at this <;> split at this <;> omega
  · rw [slotAt_set hdl, if_neg (mem u hu).2]
    exact h.inn u (mem u hu).1
  · rw [slotAt_set hdl] at hid'
    by_cases e : id = d + 2
    · rw [if_pos e] at hid'
      simp [off] at hid'
    · rw [if_neg e] at hid'
      obtain ⟨j, u, hu, he⟩ := h.out id s hid'
      have hji : j ≠ i := by
        intro e'
        subst e'
        rw [ht] at hu
        injection hu with hu
        subst hu
        omega
      by_cases hlt : j < i
      · exact ⟨j, u, by rw [era, if_pos hlt]; exact hu, he⟩
      · refine ⟨j - 1, u, ?_, he⟩
        rw [era, if_neg (by omega), show j - 1 + 1 = j by omega]
        exact hu
end
end ArenaMath
