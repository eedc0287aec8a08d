/- A store of records: its nodes by ids, what is found, made and dropped; nothing of the program. -/
import Derived.Test.YteopfdbjiiiegaaDoorSMath
import Derived.Test.YteopfdbjiiiegaaDoorNdA
namespace StoreMath
open ArenaMath IndexMath
open Go.Proofs.YteopfdbjiiiegaaDoor.Nd.NodeMath

/-- A store: its variables, its room, its slots, its dropped ids. -/
structure Ab where
  n : Nat
  room : Nat
  sl : List (Slot Rec)
  dr : List Nat
/-- A node's record. -/
def nodeOf (sl : List (Slot Rec)) (id : Nat) : Option Rec := (slotAt sl id).map (fun s => s.thing)
def Ab.node (a : Ab) (id : Nat) : Option Rec := nodeOf a.sl id
/-- Does an edge lead? -/
def leadsB (n : Nat) (nd : Option Rec) (f tag at' : Nat) (l : Int) : Bool :=
  decide (PlainP f tag at' l (n : Int)) && (decide (at' < 2) || match nd with
    | some r => decide (r.form = f) && (decide (l ≤ (r.top : Int)) && decide (tag ≤ r.top))
    | none => false)
def Ab.leads (a : Ab) (f tag at' : Nat) (l : Int) : Bool := leadsB a.n (a.node at') f tag at' l
def Ab.fits (a : Ab) (r : Rec) : Bool := decide (RightP r.form r.top r.bot r.lt r.la r.ht r.ha (a.n : Int)) && (a.leads r.form r.lt r.la ((r.bot : Int) + 1) && a.leads r.form r.ht r.ha ((r.bot : Int) + 1))
/-- The id of a record. -/
def idOf (sl : List (Slot Rec)) (r : Rec) : Option Nat := (sl.findIdx? (fun s => s.taken && decide (s.thing = r))).map (fun i => i + 2)
/-- A node, or a new one; its id, the error. -/
def Ab.find (a : Ab) (r : Rec) : Ab × Nat × Nat :=
  match idOf a.sl r with
  | some id => (a, id, 0)
  | none =>
    if a.fits r = false then (a, 0, 1)
    else if a.room + a.dr.length = a.sl.length then (a, 0, 6)
    else match a.dr.getLast? with
      | none => ({ a with sl := a.sl ++ [⟨r, 0, true⟩] }, a.sl.length + 2, 0)
      | some d => ({ a with sl := a.sl.set (d - 2) ⟨r, 0, true⟩, dr := a.dr.dropLast }, d, 0)
def Ab.drop (a : Ab) (id : Nat) : Ab := { a with sl := a.sl.set (id - 2) (off none0), dr := a.dr ++ [id] }

/-- A store that may be. -/
structure Ab.Ok (a : Ab) : Prop where
  fit : Fit none0 a.sl a.dr
  len : a.sl.length ≤ a.room
  room : a.room ≤ 1048576
  n : a.n ≤ 16
  zero : ∀ (i : Nat) s, a.sl[i]? = some s → s.held = 0 ∧ s.thing.Ok
/-- The pairs of an index are the nodes. -/
structure Pm (sl : List (Slot Rec)) (dr : List Nat) (m : List (Rec × Nat)) : Prop where
  mem : ∀ r id, (r, id) ∈ m ↔ slotAt sl id = some ⟨r, 0, true⟩
  len : m.length + dr.length = sl.length
  once : (keys m).Nodup

theorem Ab.Ok.new {n room : Nat} (hn : n ≤ 16) (hr : room ≤ 1048576) : (⟨n, room, [], []⟩ : Ab).Ok := ⟨Fit.nil _, Nat.zero_le _, hr, hn, fun i s h => by simp at h⟩
theorem Pm.new : Pm [] [] [] := ⟨fun r id => by
  constructor
  · intro h; cases h
  · intro h
    obtain ⟨i, _, h1, _⟩ := slotAt_some h
    simp at h1, rfl, List.nodup_nil⟩

section
variable {a : Ab} {sl : List (Slot Rec)} {dr : List Nat} {m : List (Rec × Nat)} {r : Rec} {id : Nat}
theorem slot_zero (hz : ∀ (i : Nat) s, sl[i]? = some s → s.held = 0 ∧ s.thing.Ok) {s : Slot Rec} (h : slotAt sl id = some s) : s = ⟨s.thing, 0, true⟩ ∧ s.thing.Ok := by
  obtain ⟨i, _, h1, h2⟩ := slotAt_some h
  obtain ⟨t, hd, tk⟩ := s
  obtain ⟨h3, h4⟩ := hz i _ h1
  simp only at h2 h3 h4
  subst h2 h3
  exact ⟨rfl, h4⟩
theorem node_iff (hz : ∀ (i : Nat) s, sl[i]? = some s → s.held = 0 ∧ s.thing.Ok) : nodeOf sl id = some r ↔ slotAt sl id = some ⟨r, 0, true⟩ := by
  unfold nodeOf
  constructor
  · intro h
    obtain ⟨s, h1, h2⟩ := Option.map_eq_some_iff.1 h
    have := (slot_zero hz h1).1
    rw [h2] at this
    rw [← this]; exact h1
  · intro h; rw [h]; rfl
theorem node_ok (hz : ∀ (i : Nat) s, sl[i]? = some s → s.held = 0 ∧ s.thing.Ok) (h : nodeOf sl id = some r) : r.Ok := (slot_zero hz ((node_iff hz).1 h)).2
theorem node_none : nodeOf sl id = none ↔ slotAt sl id = none := by unfold nodeOf; rw [Option.map_eq_none_iff]
theorem node_low (h : id < 2) : nodeOf sl id = none := by rw [node_none]; unfold slotAt; rw [if_neg (by omega)]
theorem node_lt (h : nodeOf sl id = some r) : 2 ≤ id ∧ id < sl.length + 2 := by
  unfold nodeOf at h
  obtain ⟨s, h1, _⟩ := Option.map_eq_some_iff.1 h
  obtain ⟨i, rfl, h2, _⟩ := slotAt_some h1
  have := (List.getElem?_eq_some_iff.1 h2).1
  omega
theorem Pm.uniq (p : Pm sl dr m) {i j : Nat} (h1 : slotAt sl i = some ⟨r, 0, true⟩) (h2 : slotAt sl j = some ⟨r, 0, true⟩) : i = j := by
  have e1 := seek_mem p.once ((p.mem r i).2 h1)
  have e2 := seek_mem p.once ((p.mem r j).2 h2)
  rw [e1] at e2
  injection e2
theorem Pm.seek (p : Pm sl dr m) (hz : ∀ (i : Nat) s, sl[i]? = some s → s.held = 0 ∧ s.thing.Ok) (r : Rec) : IndexMath.seek m r = idOf sl r := by
  unfold idOf
  cases e : sl.findIdx? (fun s => s.taken && decide (s.thing = r)) with
  | none =>
    show _ = none
    rw [seek_none]
    intro hm
    obtain ⟨q, hq, rfl⟩ := List.mem_map.1 hm
    have h1 := (p.mem q.1 q.2).1 hq
    obtain ⟨i, _, h2, _⟩ := slotAt_some h1
    rw [List.findIdx?_eq_none_iff] at e
    have := e _ (List.mem_of_getElem? h2)
    simp at this
  | some i =>
    show _ = some (i + 2)
    obtain ⟨h1, h2, _⟩ := List.findIdx?_eq_some_iff_getElem.1 e
    simp at h2
    refine seek_mem p.once ((p.mem r (i + 2)).2 ?_)
    have h3 : sl[i]? = some sl[i] := List.getElem?_eq_getElem h1
    have h4 := slotAt_yes h3 h2.1
    rw [h4]
    have h5 := (slot_zero hz h4).1
    rw [h2.2] at h5
    rw [h5]
theorem idOf_iff (p : Pm sl dr m) (hz : ∀ (i : Nat) s, sl[i]? = some s → s.held = 0 ∧ s.thing.Ok) : idOf sl r = some id ↔ nodeOf sl id = some r := by
  rw [← p.seek hz r, node_iff hz, ← p.mem r id]
  exact ⟨mem_of_seek, seek_mem p.once⟩
theorem put_new {k : Rec} {d : Nat} (h : IndexMath.seek m k = none) : put m k d = m ++ [(k, d)] := by
  unfold put; rw [less_self (seek_none.1 h)]

theorem slotAt_set {i j : Nat} {s : Slot Rec} (hi : i < sl.length) : slotAt (sl.set i s) j = if j = i + 2 then (if s.taken = true then some s else none) else slotAt sl j := by
  unfold slotAt
  by_cases h2 : 2 ≤ j
  · obtain ⟨k, rfl⟩ : ∃ k, j = k + 2 := ⟨j - 2, by omega⟩
    rw [if_pos h2, if_pos h2, Nat.add_sub_cancel, set_at hi]
    by_cases e : i = k
    · subst e
      rw [if_pos rfl, if_pos rfl]
      cases ht : s.taken <;> simp [ht]
    · rw [if_neg e, if_neg (by omega)]
  · rw [if_neg h2, if_neg h2, if_neg (by omega)]
theorem slotAt_snoc {j : Nat} {s : Slot Rec} (ht : s.taken = true) : slotAt (sl ++ [s]) j = if j = sl.length + 2 then some s else slotAt sl j := by
  unfold slotAt
  by_cases h2 : 2 ≤ j
  · obtain ⟨k, rfl⟩ : ∃ k, j = k + 2 := ⟨j - 2, by omega⟩
    rw [if_pos h2, if_pos h2, Nat.add_sub_cancel]
    rcases Nat.lt_trichotomy k sl.length with h | h | h
    · rw [if_neg (by omega), List.getElem?_append_left h]
    · subst h; simp [ht]
    · rw [if_neg (by omega), List.getElem?_eq_none (by simp; omega), List.getElem?_eq_none (by omega)]
  · rw [if_neg h2, if_neg h2, if_neg (by omega)]

theorem nodup_put (h : (keys m).Nodup) (k : Rec) (d : Nat) : (keys (put m k d)).Nodup := put_nodup k d h
theorem Pm.fresh (p : Pm sl [] m) (hs : IndexMath.seek m r = none) : Pm (sl ++ [⟨r, 0, true⟩]) [] (put m r (sl.length + 2)) := by
  refine ⟨fun q j => ?_, ?_, nodup_put p.once _ _⟩
  · rw [put_new hs, slotAt_snoc rfl, List.mem_append, p.mem q j, List.mem_singleton]
    have hz : slotAt sl (sl.length + 2) = none := by
      cases e : slotAt sl (sl.length + 2) with
      | none => rfl
      | some s =>
        obtain ⟨i, h1, h2, _⟩ := slotAt_some e
        have := (List.getElem?_eq_some_iff.1 h2).1
        omega
    by_cases e : j = sl.length + 2
    · subst e
      rw [if_pos rfl, hz]
      simp only [reduceCtorEq, false_or, Prod.mk.injEq, and_true, Option.some.injEq, Slot.mk.injEq]
      exact ⟨fun h => h.symm, fun h => h.symm⟩
    · rw [if_neg e]
      constructor
      · rintro (h | h)
        · exact h
        · injection h with _ h; exact absurd h e
      · exact .inl
  · rw [put_new hs]
    have := p.len
    simp at this ⊢
    omega
theorem Pm.again {ds : List Nat} {i : Nat} (p : Pm sl (ds ++ [i + 2]) m) (f : Fit none0 sl (ds ++ [i + 2])) (hs : IndexMath.seek m r = none) : Pm (sl.set i ⟨r, 0, true⟩) ds (put m r (i + 2)) := by
  obtain ⟨_, h1, hl⟩ := f.again r
  refine ⟨fun q j => ?_, ?_, nodup_put p.once _ _⟩
  · rw [put_new hs, slotAt_set hl, List.mem_append, p.mem q j, List.mem_singleton]
    have hz : slotAt sl (i + 2) = none := by
      cases e : slotAt sl (i + 2) with
      | none => rfl
      | some s =>
        obtain ⟨k, h2, h3, h4⟩ := slotAt_some e
        obtain rfl : i = k := by omega
        rw [h1] at h3
        injection h3 with h3
        subst h3
        cases h4
    by_cases e : j = i + 2
    · subst e
      rw [if_pos rfl, hz]
      simp only [reduceCtorEq, false_or, Prod.mk.injEq, and_true, if_true, Option.some.injEq, Slot.mk.injEq]
      exact ⟨fun h => h.symm, fun h => h.symm⟩
    · rw [if_neg e]
      constructor
      · rintro (h | h)
        · exact h
        · injection h with _ h; exact absurd h e
      · exact .inl
  · rw [put_new hs]
    have := p.len
    simp at this ⊢
    omega
theorem Pm.drop (p : Pm sl dr m) (h : slotAt sl id = some ⟨r, 0, true⟩) : Pm (sl.set (id - 2) (off none0)) (dr ++ [id]) (less m r) := by
  obtain ⟨i, rfl, h1, _⟩ := slotAt_some h
  have hl := (List.getElem?_eq_some_iff.1 h1).1
  have hsk := seek_mem p.once ((p.mem _ _).2 h)
  rw [Nat.add_sub_cancel]
  refine ⟨fun q j => ?_, ?_, less_nodup _ p.once⟩
  · rw [slotAt_set hl]
    have : ((q, j) ∈ less m r) ↔ ((q, j) ∈ m ∧ q ≠ r) := by unfold less; simp
    rw [this, p.mem]
    by_cases e : j = i + 2
    · subst e
      rw [if_pos rfl]
      constructor
      · rintro ⟨h2, h3⟩
        rw [h] at h2
        injection h2 with h2
        injection h2 with h2
        exact absurd h2.symm h3
      · intro h2; simp [off] at h2
    · rw [if_neg e]
      constructor
      · exact fun h => h.1
      · intro h2
        refine ⟨h2, ?_⟩
        rintro rfl
        exact e (p.uniq h2 h)
  · have := p.len
    have := less_length p.once hsk
    simp
    omega

theorem Ab.Ok.fresh (h : a.Ok) (hr : r.Ok) (hl : a.sl.length < a.room) (_hd : a.dr = []) : ({ a with sl := a.sl ++ [⟨r, 0, true⟩] } : Ab).Ok := by
  refine ⟨h.fit.fresh r, by simp; omega, h.room, h.n, fun i s hs => ?_⟩
  rcases Nat.lt_or_ge i a.sl.length with h1 | h1
  · rw [List.getElem?_append_left h1] at hs; exact h.zero i s hs
  · rw [List.getElem?_append_right h1] at hs
    obtain ⟨h2, h3⟩ := List.getElem?_eq_some_iff.1 hs
    simp at h2 h3
    subst h3
    exact ⟨rfl, hr⟩
theorem zero_set (hz : ∀ (i : Nat) s, sl[i]? = some s → s.held = 0 ∧ s.thing.Ok) {k : Nat} {t : Slot Rec} (ht : t.held = 0 ∧ t.thing.Ok) : ∀ (i : Nat) s, (sl.set k t)[i]? = some s → s.held = 0 ∧ s.thing.Ok := by
  intro i s hs
  rw [List.getElem?_set] at hs
  split at hs
  · split at hs
    · injection hs with hs; subst hs; exact ht
    · cases hs
  · exact hz i s hs
theorem Ab.Ok.again {ds : List Nat} {i : Nat} (h : a.Ok) (hr : r.Ok) (hd : a.dr = ds ++ [i + 2]) : ({ a with sl := a.sl.set i ⟨r, 0, true⟩, dr := ds } : Ab).Ok := by
  have f := h.fit
  rw [hd] at f
  exact ⟨(f.again r).1, by simp; exact h.len, h.room, h.n, zero_set h.zero ⟨rfl, hr⟩⟩
theorem Ab.Ok.drop (h : a.Ok) (hs : slotAt a.sl id = some ⟨r, 0, true⟩) : (a.drop id).Ok := by
  obtain ⟨i, rfl, h1, h2⟩ := slotAt_some hs
  refine ⟨?_, by simp [Ab.drop]; exact h.len, h.room, h.n, ?_⟩
  · have := h.fit.drop h1 h2
    unfold Ab.drop
    rw [Nat.add_sub_cancel]
    exact this
  · exact zero_set h.zero ⟨rfl, none0_ok⟩
end
end StoreMath
