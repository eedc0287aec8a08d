/- ArenaKeeps: what the statement's own lists say of an arena's slots; nothing of the program. -/
import Derived.Test.YthpmppggiiaibaaMath
namespace ArenaMath

/-- Behind i rounds: what isn't gone lies in the arena under its id. -/
structure Liv (sl : List (Slot Int)) (dr : List Nat) (l : List Int) (ids : List Nat) (gone : List Bool) (i : Nat) : Prop where
  fit : Fit 0 sl dr
  len : sl.length ≤ i
  il : ids.length = l.length
  gl : gone.length = l.length
  live : ∀ k, k < i → gone[k]? = some false → ∃ d x, l[k]? = some x ∧ ids[k]? = some (d + 2) ∧ sl[d]? = some ⟨x, 0, true⟩
  inj : ∀ j k d, j < i → k < i → gone[j]? = some false → gone[k]? = some false → ids[j]? = some d → ids[k]? = some d → j = k
  rest : ∀ k, i ≤ k → k < l.length → gone[k]? = some false
  cnt : (gone.take i).count false + dr.length = sl.length

theorem Liv.start (l : List Int) : Liv [] [] l (List.replicate l.length 0) (List.replicate l.length false) 0 :=
  ⟨Fit.nil 0, Nat.zero_le _, by simp, by simp, fun k h => by omega, fun j k d h => by omega, fun k _ h => by simp [h], by simp⟩

theorem count_take_snoc {l : List Bool} {i : Nat} {b : Bool} (h : l[i]? = some b) : (l.take (i + 1)).count false = (l.take i).count false + (if b = false then 1 else 0) := by
  rw [List.take_add_one, h, List.count_append]
  cases b <;> simp

theorem Liv.put {sl sl' : List (Slot Int)} {dr dr' : List Nat} {l : List Int} {ids : List Nat} {gone : List Bool} {i d : Nat} {x : Int} (h : Liv sl dr l ids gone i) (hi : l[i]? = some x) (hf : Fit 0 sl' dr') (hl : sl'.length ≤ i + 1)
    (hd : sl'[d]? = some ⟨x, 0, true⟩) (ho : ∀ j s, j ≠ d → sl[j]? = some s → sl'[j]? = some s) (hfree : ∀ s, sl[d]? = some s → s.taken = false) (hc : sl.length + dr'.length + 1 = dr.length + sl'.length) :
    Liv sl' dr' l (ids.set i (d + 2)) gone (i + 1) := by
  have hil := (List.getElem?_eq_some_iff.1 hi).1
  have hii : i < ids.length := by rw [h.il]; exact hil
  have hset : ∀ k, (ids.set i (d + 2))[k]? = if i = k then some (d + 2) else ids[k]? := by
    intro k
    rw [List.getElem?_set]
    by_cases e : i = k
    · subst e; simp [hii]
    · simp [e]
  have hne : ∀ k d', k < i → gone[k]? = some false → ids[k]? = some (d' + 2) → d' ≠ d := by
    intro k d' hk hg hid e
    subst e
    obtain ⟨d2, y, _, h2, h3⟩ := h.live k hk hg
    rw [hid] at h2
    injection h2 with h2
    obtain rfl : d' = d2 := by omega
    have := hfree _ h3
    cases this
  refine ⟨hf, hl, by rw [List.length_set]; exact h.il, h.gl, fun k hk hg => ?_, fun j k d' hj hk hgj hgk h1 h2 => ?_, fun k hk hkl => h.rest k (by omega) hkl, ?_⟩
  · rw [hset]
    by_cases e : i = k
    · subst e
      exact ⟨d, x, hi, by simp, hd⟩
    · obtain ⟨d', y, h1, h2, h3⟩ := h.live k (by omega) hg
      refine ⟨d', y, h1, by simp [e, h2], ho d' _ (hne k d' (by omega) hg h2) h3⟩
  · rw [hset] at h1 h2
    by_cases ej : i = j
    · by_cases ek : i = k
      · omega
      · subst ej
        rw [if_pos rfl] at h1
        rw [if_neg ek] at h2
        injection h1 with h1
        subst h1
        exact absurd rfl (hne k d (by omega) hgk h2)
    · rw [if_neg ej] at h1
      by_cases ek : i = k
      · subst ek
        rw [if_pos rfl] at h2
        injection h2 with h2
        subst h2
        exact absurd rfl (hne j d (by omega) hgj h1)
      · rw [if_neg ek] at h2
        exact h.inj j k d' (by omega) (by omega) hgj hgk h1 h2
  · have hg := h.rest i (Nat.le_refl _) hil
    rw [count_take_snoc hg]
    have := h.cnt
    simp
    omega

theorem count_set {l : List Bool} {k : Nat} (h : l[k]? = some false) : (l.set k true).count false + 1 = l.count false := by
  induction l generalizing k with
  | nil => simp at h
  | cons a r ih =>
    cases k with
    | zero => simp at h; subst h; simp
    | succ k =>
      have := ih (k := k) (by simpa using h)
      simp only [List.set_cons_succ, List.count_cons]
      omega

theorem Liv.drop {sl : List (Slot Int)} {dr : List Nat} {l : List Int} {ids : List Nat} {gone : List Bool} {i k d : Nat} (h : Liv sl dr l ids gone i) (hk : k < i) (hg : gone[k]? = some false) (hid : ids[k]? = some (d + 2)) :
    Liv (sl.set d (off 0)) (dr ++ [d + 2]) l ids (gone.set k true) i := by
  obtain ⟨d', y, h1, h2, h3⟩ := h.live k hk hg
  rw [hid] at h2
  injection h2 with h2
  obtain rfl : d = d' := by omega
  have hdl := (List.getElem?_eq_some_iff.1 h3).1
  have hkl := (List.getElem?_eq_some_iff.1 hg).1
  have hset : ∀ j, (gone.set k true)[j]? = if k = j then some true else gone[j]? := by
    intro j
    rw [List.getElem?_set]
    by_cases e : k = j
    · subst e; simp [hkl]
    · simp [e]
  have hold : ∀ j, (gone.set k true)[j]? = some false → j ≠ k ∧ gone[j]? = some false := by
    intro j hj
    rw [hset] at hj
    by_cases e : k = j
    · subst e; simp at hj
    · rw [if_neg e] at hj; exact ⟨fun e' => e e'.symm, hj⟩
  refine ⟨h.fit.drop h3 rfl, by rw [List.length_set]; exact h.len, h.il, by rw [List.length_set]; exact h.gl, fun j hj hgj => ?_, fun a b c ha hb hga hgb e1 e2 => h.inj a b c ha hb (hold a hga).2 (hold b hgb).2 e1 e2, fun j hj hjl => ?_, ?_⟩
  · obtain ⟨hne, hgj'⟩ := hold j hgj
    obtain ⟨e, z, e1, e2, e3⟩ := h.live j hj hgj'
    refine ⟨e, z, e1, e2, ?_⟩
    rw [set_at hdl, if_neg]
    · exact e3
    · intro he
      subst he
      exact hne (h.inj j k _ hj hk hgj' hg e2 hid)
  · rw [hset, if_neg (by omega)]
    exact h.rest j hj hjl
  · rw [List.length_set, List.length_append, List.length_singleton, List.take_set]
    have hgk : (gone.take i)[k]? = some false := by rw [List.getElem?_take, if_pos hk]; exact hg
    have := count_set hgk
    have := h.cnt
    omega

theorem Liv.id_ne {sl : List (Slot Int)} {dr : List Nat} {l : List Int} {ids : List Nat} {gone : List Bool} {i k d : Nat} (h : Liv sl dr l ids gone i) (hk : k < i) (hg : gone[k]? = some false) (hid : ids[k]? = some (d + 2)) : ∃ s, sl[d]? = some s ∧ s.taken = true ∧ s.held = 0 := by
  obtain ⟨d', y, h1, h2, h3⟩ := h.live k hk hg
  rw [hid] at h2
  injection h2 with h2
  obtain rfl : d = d' := by omega
  exact ⟨_, h3, rfl, rfl⟩
end ArenaMath
