/- What holds of a store behind finds and a sweep: each node's edges lead; its ids, counted; nothing of the program. -/
import Derived.Test.YtafkdkppghjjeaaSwMath
import Derived.Test.YtafkdkppghjjeaaMkR
namespace StoreMath
open ArenaMath IndexMath MarkMath
section
variable {a : Ab} {r : Rec} {m : List (Rec × Nat)}
/-- A new id of a store: of no node. -/
theorem find_new (h : a.Ok) (_p : Pm a.sl a.dr m) (r : Rec) : (a.find r = (a, (a.find r).2.1, (a.find r).2.2) ∧ (a.find r).1 = a) ∨
    ((a.find r).2.2 = 0 ∧ idOf a.sl r = none ∧ a.fits r = true ∧ a.room + a.dr.length ≠ a.sl.length ∧ nodeOf a.sl (a.find r).2.1 = none ∧ (a.find r).1.n = a.n ∧ (a.find r).1.room = a.room ∧ ∀ j, nodeOf (a.find r).1.sl j = if j = (a.find r).2.1 then some r else nodeOf a.sl j) := by
  unfold Ab.find
  cases hid : idOf a.sl r with
  | some id => exact .inl ⟨rfl, rfl⟩
  | none =>
    simp only
    by_cases hf : a.fits r = false
    · rw [if_pos hf]; exact .inl ⟨rfl, rfl⟩
    · rw [if_neg hf]
      by_cases hr : a.room + a.dr.length = a.sl.length
      · rw [if_pos hr]; exact .inl ⟨rfl, rfl⟩
      · rw [if_neg hr]
        right
        cases hl : a.dr.getLast? with
        | none =>
          simp only
          refine ⟨trivial, trivial, by simpa using hf, hr, ?_, trivial, trivial, fun j => ?_⟩
          · cases e : nodeOf a.sl (a.sl.length + 2) with
            | none => rfl
            | some q => have := node_lt e; omega
          · unfold nodeOf
            rw [slotAt_snoc rfl]
            by_cases e : j = a.sl.length + 2
            · rw [if_pos e, if_pos e]; rfl
            · rw [if_neg e, if_neg e]
        | some d =>
          simp only
          have hne : a.dr ≠ [] := by intro e; rw [e] at hl; cases hl
          obtain ⟨ds, d', hd'⟩ := last_of hne
          rw [hd'] at hl
          have e1 : d' = d := by simpa using hl
          subst e1
          have h2 : 2 ≤ d' := h.fit.least d' (by rw [hd']; simp)
          obtain ⟨i, rfl⟩ : ∃ i, d' = i + 2 := ⟨d' - 2, by omega⟩
          have hfit := h.fit
          rw [hd'] at hfit
          obtain ⟨_, h3, h4⟩ := hfit.again r
          refine ⟨trivial, trivial, by simpa using hf, hr, ?_, trivial, trivial, fun j => ?_⟩
          · rw [node_none]
            cases e : slotAt a.sl (i + 2) with
            | none => rfl
            | some s =>
              obtain ⟨k, h5, h6, h7⟩ := slotAt_some e
              obtain rfl : i = k := by omega
              rw [h3] at h6
              injection h6 with h6
              subst h6
              cases h7
          · rw [Nat.add_sub_cancel]
            unfold nodeOf
            rw [slotAt_set h4]
            by_cases e : j = i + 2
            · rw [if_pos e, if_pos e]; rfl
            · rw [if_neg e, if_neg e]
theorem find_known {id : Nat} (h : idOf a.sl r = some id) : a.find r = (a, id, 0) := by unfold Ab.find; rw [h]

/-- Each node's edges lead beneath it. -/
def Firm (a : Ab) : Prop := ∀ id r, nodeOf a.sl id = some r → a.leads r.form r.lt r.la ((r.bot : Int) + 1) = true ∧ a.leads r.form r.ht r.ha ((r.bot : Int) + 1) = true
theorem leads_more {b : Ab} (hn : b.n = a.n) {f t u : Nat} {l : Int} (hs : ∀ q, nodeOf a.sl u = some q → nodeOf b.sl u = some q) (h : a.leads f t u l = true) : b.leads f t u l = true := by
  unfold Ab.leads Ab.node leadsB at *
  rw [hn]
  simp only [Bool.and_eq_true, Bool.or_eq_true] at h ⊢
  refine ⟨h.1, ?_⟩
  rcases h.2 with h2 | h2
  · exact .inl h2
  · right
    cases e : nodeOf a.sl u with
    | none => rw [e] at h2; cases h2
    | some q => rw [hs q e]; rw [e] at h2; exact h2
theorem firm_new (n room : Nat) : Firm ⟨n, room, [], []⟩ := fun id r h => by
  obtain ⟨_, h2⟩ := node_lt h
  have := (node_lt h).1
  simp at h2; omega
theorem firm_find (h : a.Ok) (p : Pm a.sl a.dr m) (hf : Firm a) (r : Rec) : Firm (a.find r).1 := by
  rcases find_new h p r with ⟨_, h1⟩ | ⟨_, _, h2, _, h3, h4, _, h5⟩
  · rw [h1]; exact hf
  · have hmore : ∀ u q, nodeOf a.sl u = some q → nodeOf (a.find r).1.sl u = some q := fun u q hq => by
      rw [h5, if_neg (fun e => by rw [e, h3] at hq; cases hq)]; exact hq
    intro id q hq
    rw [h5] at hq
    by_cases e : id = (a.find r).2.1
    · rw [if_pos e] at hq
      injection hq with hq
      subst hq
      unfold Ab.fits at h2
      simp only [Bool.and_eq_true] at h2
      exact ⟨leads_more h4 (hmore _) h2.2.1, leads_more h4 (hmore _) h2.2.2⟩
    · rw [if_neg e] at hq
      obtain ⟨a1, a2⟩ := hf id q hq
      exact ⟨leads_more h4 (hmore _) a1, leads_more h4 (hmore _) a2⟩
theorem find_same (h : a.Ok) (p : Pm a.sl a.dr m) (r : Rec) : (a.find r).1.n = a.n ∧ (a.find r).1.room = a.room := by
  rcases find_new h p r with ⟨_, h1⟩ | ⟨_, _, _, _, _, h4, h5, _⟩
  · rw [h1]; exact ⟨rfl, rfl⟩
  · exact ⟨h4, h5⟩

/-- The nodes behind a sweep. -/
theorem swept_node {ws : List Nat} {S : Nat → Prop} (_hw : ∀ j, bitAt ws j = true ↔ Reached a.sl S j) (j : Nat) : nodeOf (dropAll a (goesP a.sl (bitAt ws))).sl j = if bitAt ws j = true then nodeOf a.sl j else none := by
  rw [dropAll_node _ a (goes_nodup _ _) (fun id hid => (goes_mem.1 hid).1) j]
  by_cases e : j ∈ goesP a.sl (bitAt ws)
  · rw [if_pos e, if_neg (by rw [(goes_mem.1 e).2]; decide)]
  · rw [if_neg e]
    by_cases hb : bitAt ws j = true
    · rw [if_pos hb]
    · rw [if_neg hb]
      cases hn : nodeOf a.sl j with
      | none => rfl
      | some q => exact absurd (goes_mem.2 ⟨⟨q, hn⟩, by simpa using hb⟩) e
theorem firm_sweep {ws : List Nat} {S : Nat → Prop} (hw : ∀ j, bitAt ws j = true ↔ Reached a.sl S j) (hf : Firm a) : Firm (dropAll a (goesP a.sl (bitAt ws))) := by
  intro id q hq
  rw [swept_node hw] at hq
  by_cases hb : bitAt ws id = true
  · rw [if_pos hb] at hq
    obtain ⟨a1, a2⟩ := hf id q hq
    have hr := (hw id).1 hb
    refine ⟨leads_more (dropAll_len _ a).2.2.1 (fun p hp => ?_) a1, leads_more (dropAll_len _ a).2.2.1 (fun p hp => ?_) a2⟩
    · rw [swept_node hw, if_pos ((hw _).2 (.lo hr hq hp))]; exact hp
    · rw [swept_node hw, if_pos ((hw _).2 (.hi hr hq hp))]; exact hp
  · rw [if_neg hb] at hq; cases hq
end

/-- The ids of a store, as those that a look tells. -/
theorem ids_filter (sl : List (Slot Rec)) (p : Nat → Bool) (hp : ∀ j, p j = (nodeOf sl j).isSome) {q : Nat} (hq : sl.length + 2 ≤ q) : Go.Proofs.Ytafkdkppghjjeaa.Ar.idsTo sl sl.length = ((List.range q).filter p).map fun x : Nat => (x : Int) := by
  obtain ⟨d, rfl⟩ : ∃ d, q = 2 + (sl.length + d) := ⟨q - 2 - sl.length, by omega⟩
  have h0 : p 0 = false := by rw [hp, node_low (by omega)]; rfl
  have h1 : p 1 = false := by rw [hp, node_low (by omega)]; rfl
  rw [List.range_add, List.filter_append, List.map_append, show List.range 2 = [0, 1] from rfl, List.filter_cons_of_neg (by rw [h0]; decide), List.filter_cons_of_neg (by rw [h1]; decide), List.filter_nil, List.map_nil, List.nil_append, List.filter_map, List.map_map, List.range_add, List.filter_append, List.map_append]
  have hz : ((List.map (fun x => sl.length + x) (List.range d)).filter (p ∘ fun x => 2 + x)) = [] := by
    rw [List.filter_eq_nil_iff]
    intro x hx
    obtain ⟨y, _, rfl⟩ := List.mem_map.1 hx
    show ¬ p (2 + (sl.length + y)) = true
    rw [hp]
    cases e : nodeOf sl (2 + (sl.length + y)) with
    | none => decide
    | some z => have := node_lt e; omega
  rw [hz, List.map_nil, List.append_nil]
  unfold Go.Proofs.Ytafkdkppghjjeaa.Ar.idsTo
  have hf : (fun i => (sl[i]?).any (·.taken)) = (p ∘ fun x => 2 + x) := by
    funext i
    show _ = p (2 + i)
    rw [hp, Nat.add_comm 2 i, taken_node]
  rw [hf]
  apply List.map_congr_left
  intro x _
  show _ = ((2 + x : Nat) : Int)
  rw [Nat.add_comm]
theorem ids_swept {a : Ab} {ws : List Nat} {S : Nat → Prop} (hw : ∀ j, bitAt ws j = true ↔ Reached a.sl S j) : Go.Proofs.Ytafkdkppghjjeaa.Ar.idsTo (dropAll a (goesP a.sl (bitAt ws))).sl (dropAll a (goesP a.sl (bitAt ws))).sl.length = memU ws (64 * ws.length) := by
  have hp : ∀ j, bitAt ws j = (nodeOf (dropAll a (goesP a.sl (bitAt ws))).sl j).isSome := fun j => by
    rw [swept_node hw]
    cases hb : bitAt ws j with
    | true =>
      obtain ⟨q, hq⟩ := ((hw j).1 hb).node
      rw [if_pos rfl, hq]; rfl
    | false => rw [if_neg (by decide)]; rfl
  obtain ⟨Q, hQ⟩ : ∃ Q, Q = max ((dropAll a (goesP a.sl (bitAt ws))).sl.length + 2) (64 * ws.length) := ⟨_, rfl⟩
  rw [ids_filter _ _ hp (q := Q) (by omega)]
  show memU ws Q = _
  refine memU_to (by omega) (fun j h1 _ => ?_)
  unfold bitAt
  rw [List.getElem?_eq_none (by omega)]
  simp
/-- How many ids there are. -/
theorem ids_count {a : Ab} (h : a.Ok) : (Go.Proofs.Ytafkdkppghjjeaa.Ar.idsTo a.sl a.sl.length).length + a.dr.length = a.sl.length := by
  unfold Go.Proofs.Ytafkdkppghjjeaa.Ar.idsTo
  rw [List.length_map]
  have h1 : ((List.range a.sl.length).filter fun i => !((a.sl[i]?).any (·.taken))).length = a.dr.length := by
    have hp : (((List.range a.sl.length).filter fun i => !((a.sl[i]?).any (·.taken))).map (fun i => i + 2)).Perm a.dr := by
      refine (List.perm_ext_iff_of_nodup ?_ h.fit.nodup).2 (fun d => ?_)
      · refine List.Pairwise.map _ ?_ (List.Pairwise.filter _ List.nodup_range)
        intro x y h e; exact h (by omega)
      · rw [List.mem_map]
        constructor
        · rintro ⟨i, h1, rfl⟩
          obtain ⟨h2, h3⟩ := List.mem_filter.1 h1
          have hl : i < a.sl.length := by simpa using h2
          have hi : a.sl[i]? = some a.sl[i] := List.getElem?_eq_getElem hl
          rw [hi] at h3
          have ht : a.sl[i].taken = false := by simpa using h3
          rw [h.fit.gone i, hi, h.fit.empty i _ hi ht]
        · intro hd
          have h2 := h.fit.least d hd
          obtain ⟨i, rfl⟩ : ∃ i, d = i + 2 := ⟨d - 2, by omega⟩
          have h3 := (h.fit.gone i).1 hd
          have hl := (List.getElem?_eq_some_iff.1 h3).1
          exact ⟨i, List.mem_filter.2 ⟨by simpa using hl, by rw [h3]; rfl⟩, rfl⟩
    rw [← hp.length_eq, List.length_map]
  have h2 : ∀ (l : List Nat) (p : Nat → Bool), (l.filter p).length + (l.filter fun i => !p i).length = l.length := by
    intro l p
    induction l with
    | nil => rfl
    | cons x l ih =>
      cases hx : p x with
      | true => rw [List.filter_cons_of_pos hx, List.filter_cons_of_neg (by simp [hx])]; simp only [List.length_cons]; omega
      | false => rw [List.filter_cons_of_neg (by simp [hx]), List.filter_cons_of_pos (by simp [hx])]; simp only [List.length_cons]; omega
  have h3 := h2 (List.range a.sl.length) (fun i => (a.sl[i]?).any (·.taken))
  rw [List.length_range] at h3
  omega
/-- Each id stands for a node. -/
theorem ids_node {a : Ab} (h : a.Ok) {x : Int} (hx : x ∈ Go.Proofs.Ytafkdkppghjjeaa.Ar.idsTo a.sl a.sl.length) : ∃ (id : Nat) (r : Rec), x = (id : Int) ∧ id < 4294967296 ∧ nodeOf a.sl id = some r := by
  unfold Go.Proofs.Ytafkdkppghjjeaa.Ar.idsTo at hx
  obtain ⟨i, h1, rfl⟩ := List.mem_map.1 hx
  obtain ⟨h2, h3⟩ := List.mem_filter.1 h1
  have h3' : ((a.sl[i]?).any (·.taken)) = true := h3
  rw [taken_node] at h3'
  obtain ⟨r, hr⟩ := Option.isSome_iff_exists.1 h3'
  have hl : i < a.sl.length := by simpa using h2
  have := h.len
  have := h.room
  exact ⟨i + 2, r, rfl, by omega, hr⟩
end StoreMath
