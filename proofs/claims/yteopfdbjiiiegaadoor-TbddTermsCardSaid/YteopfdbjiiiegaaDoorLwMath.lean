/- What holds of a store behind finds and a sweep: each node's edges lead; its ids, counted; nothing of the program. -/
import Derived.Test.YteopfdbjiiiegaaDoorSoN
namespace MarkMath
end MarkMath
namespace StoreMath
open ArenaMath IndexMath MarkMath
section
variable {a : Ab} {r : Rec} {m : List (Rec × Nat)}
/-- A new id of a store: of no node. -/
theorem find_new (h : a.Ok) (_p : Pm a.sl a.dr m) (r : Rec) : (a.find r = (a, (a.find r).2.1, (a.find r).2.2) ∧ (a.find r).1 = a) ∨
    ((a.find r).2.2 = 0 ∧ idOf a.sl r = none ∧ a.fits r = true ∧ a.room + a.dr.length ≠ a.sl.length ∧ nodeOf a.sl (a.find r).2.1 = none ∧ (a.find r).1.n = a.n ∧ (a.find r).1.room = a.room ∧ ∀ j, nodeOf (a.find r).1.sl j = if j = (a.find r).2.1 then some r else nodeOf a.sl j) := by
  unfold Ab.find
  cases hid : idOf a.sl r with
  | some id => exact .inl ⟨rfl, rfl⟩
  | none =>
    simp only
    by_cases hf : a.fits r = false
    · rw [if_pos hf]; exact .inl ⟨rfl, rfl⟩
    · rw [if_neg hf]
      by_cases hr : a.room + a.dr.length = a.sl.length
      · rw [if_pos hr]; exact .inl ⟨rfl, rfl⟩
      · rw [if_neg hr]
        right
        cases hl : a.dr.getLast? with
        | none =>
          simp only
          refine ⟨trivial, trivial, by simpa using hf, hr, ?_, trivial, trivial, fun j => ?_⟩
          · cases e : nodeOf a.sl (a.sl.length + 2) with
            | none => rfl
            | some q => have := node_lt e; omega
          · unfold nodeOf
            rw [slotAt_snoc rfl]
            by_cases e : j = a.sl.length + 2
            · rw [if_pos e, if_pos e]; rfl
            · rw [if_neg e, if_neg e]
        | some d =>
          simp only
          have hne : a.dr ≠ [] := by intro e; rw [e] at hl; cases hl
          obtain ⟨ds, d', hd'⟩ := last_of hne
          rw [hd'] at hl
          have e1 : d' = d := by simpa using hl
          subst e1
          have h2 : 2 ≤ d' := h.fit.least d' (by rw [hd']; simp)
          obtain ⟨i, rfl⟩ : ∃ i, d' = i + 2 := ⟨d' - 2, by omega⟩
          have hfit := h.fit
          rw [hd'] at hfit
          obtain ⟨_, h3, h4⟩ := hfit.again r
          refine ⟨trivial, trivial, by simpa using hf, hr, ?_, trivial, trivial, fun j => ?_⟩
          · rw [node_none]
            cases e : slotAt a.sl (i + 2) with
            | none => rfl
            | some s =>
              obtain ⟨k, h5, h6, h7⟩ := slotAt_some e
              obtain rfl : i = k := by omega
              rw [h3] at h6
              injection h6 with h6
              subst h6
              cases h7
          · rw [Nat.add_sub_cancel]
            unfold nodeOf
            rw [slotAt_set h4]
            by_cases e : j = i + 2
            · rw [if_pos e, if_pos e]; rfl
            · rw [if_neg e, if_neg e]
theorem find_known {id : Nat} (h : idOf a.sl r = some id) : a.find r = (a, id, 0) := by unfold Ab.find; rw [h]

/-- Each node's edges lead beneath it. -/
def Firm (a : Ab) : Prop := ∀ id r, nodeOf a.sl id = some r → a.leads r.form r.lt r.la ((r.bot : Int) + 1) = true ∧ a.leads r.form r.ht r.ha ((r.bot : Int) + 1) = true
theorem leads_more {b : Ab} (hn : b.n = a.n) {f t u : Nat} {l : Int} (hs : ∀ q, nodeOf a.sl u = some q → nodeOf b.sl u = some q) (h : a.leads f t u l = true) : b.leads f t u l = true := by
  unfold Ab.leads Ab.node leadsB at *
  rw [hn]
  simp only [Bool.and_eq_true, Bool.or_eq_true] at h ⊢
  refine ⟨h.1, ?_⟩
  rcases h.2 with h2 | h2
  · exact .inl h2
  · right
    cases e : nodeOf a.sl u with
    | none => rw [e] at h2; cases h2
    | some q => rw [hs q e]; rw [e] at h2; exact h2
theorem firm_new (n room : Nat) : Firm ⟨n, room, [], []⟩ := fun id r h => by
  obtain ⟨_, h2⟩ := node_lt h
  have := (node_lt h).1
  simp at h2; omega
theorem firm_find (h : a.Ok) (p : Pm a.sl a.dr m) (hf : Firm a) (r : Rec) : Firm (a.find r).1 := by
  rcases find_new h p r with ⟨_, h1⟩ | ⟨_, _, h2, _, h3, h4, _, h5⟩
  · rw [h1]; exact hf
  · have hmore : ∀ u q, nodeOf a.sl u = some q → nodeOf (a.find r).1.sl u = some q := fun u q hq => by
      rw [h5, if_neg (fun e => by rw [e, h3] at hq; cases hq)]; exact hq
    intro id q hq
    rw [h5] at hq
    by_cases e : id = (a.find r).2.1
    · rw [if_pos e] at hq
      injection hq with hq
      subst hq
      unfold Ab.fits at h2
      simp only [Bool.and_eq_true] at h2
      exact ⟨leads_more h4 (hmore _) h2.2.1, leads_more h4 (hmore _) h2.2.2⟩
    · rw [if_neg e] at hq
      obtain ⟨a1, a2⟩ := hf id q hq
      exact ⟨leads_more h4 (hmore _) a1, leads_more h4 (hmore _) a2⟩
theorem find_same (h : a.Ok) (p : Pm a.sl a.dr m) (r : Rec) : (a.find r).1.n = a.n ∧ (a.find r).1.room = a.room := by
  rcases find_new h p r with ⟨_, h1⟩ | ⟨_, _, _, _, _, h4, h5, _⟩
  · rw [h1]; exact ⟨rfl, rfl⟩
  · exact ⟨h4, h5⟩

end
end StoreMath
