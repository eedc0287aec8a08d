/- Texts that the proof is built on (GtS, McR, McS, OpenD); no statement of the seat. -/
import Derived.Test.YtdniokdgghpkbaaGreatDoorPkS24
import Derived.Test.YtdniokdgghpkbaaGreatDoorPkS41
import Derived.Test.YtdniokdgghpkbaaGreatDoorPkS26
import Derived.BigQuiet
import Derived.Test.YtdniokdgghpkbaaGreatDoorPkS10
import Derived.ProofKit
import Derived.OpenShut
import Derived.ChangeSame
import Derived.Carry
import Derived.Deep.DeepHandedRow
import Derived.Deep.Slices
namespace StoreMath
open ArenaMath IndexMath MarkMath

/-- A table's own tables, each with its level. -/
def gSb : Nat → Nat → List Bool → List (Nat × List Bool)
  | 0, _, _ => []
  | k + 1, l, t => (l, t) :: (gSb k (l + 1) (t.take (2 ^ k)) ++ gSb k (l + 1) (t.drop (2 ^ k)))
/-- There is a node of this table, at this level. -/
def gNod (f j m : Nat) (u : List Bool) : Prop := ¬ Gskip f (gmd f j (m + 1) (u.take (2 ^ j))) (gmd f j (m + 1) (u.drop (2 ^ j))) ∧ ¬ (f = 5 ∧ gmd f j (m + 1) (u.drop (2 ^ j)) = .nul ∧ Gg (m + 1) (gmd f j (m + 1) (u.take (2 ^ j))))
section
variable {f g n l m k j : Nat} {x y z : Gt} {t u : List Bool}
theorem gsb_mem : ∀ (k l : Nat) (t : List Bool) (m : Nat) (u : List Bool), t.length = 2 ^ k → (m, u) ∈ gSb k l t → ∃ j, l ≤ m ∧ m + (j + 1) = l + k ∧ u.length = 2 ^ (j + 1) := by
  intro k
  induction k with
  | zero => intro l t m u _ h; cases h
  | succ k ih =>
    intro l t m u ht h
    obtain ⟨h1, h2⟩ := ghalf_len ht
    rcases List.mem_cons.1 h with h | h
    · injection h with e1 e2
      subst e1 e2
      exact ⟨k, Nat.le_refl _, rfl, ht⟩
    · rcases List.mem_append.1 h with h | h
      · obtain ⟨j, g1, g2, g3⟩ := ih _ _ _ _ h1 h
        exact ⟨j, by omega, by omega, g3⟩
      · obtain ⟨j, g1, g2, g3⟩ := ih _ _ _ _ h2 h
        exact ⟨j, by omega, by omega, g3⟩
theorem gsb_take : ∀ (k l : Nat) (t : List Bool) (m i : Nat) (u : List Bool), t.length = 2 ^ k → (m, u) ∈ gSb k l t → m + (i + 1 + 1) = l + k → (m + 1, u.take (2 ^ (i + 1))) ∈ gSb k l t := by
  intro k
  induction k with
  | zero => intro l t m i u _ h; cases h
  | succ k ih =>
    intro l t m i u ht h hm
    obtain ⟨h1, h2⟩ := ghalf_len ht
    rcases List.mem_cons.1 h with h | h
    · injection h with e1 e2
      subst e1 e2
      have hk : k = i + 1 := by omega
      subst hk
      exact List.mem_cons_of_mem _ (List.mem_append_left _ List.mem_cons_self)
    · refine List.mem_cons_of_mem _ (List.mem_append.2 ?_)
      rcases List.mem_append.1 h with h | h
      · exact .inl (ih _ _ _ _ _ h1 h (by omega))
      · exact .inr (ih _ _ _ _ _ h2 h (by omega))
/-- A node of a table's tree is the tree of one of its own tables. -/
theorem gsub_sb (hf : IsF f) : ∀ (k l : Nat) (t : List Bool), t.length = 2 ^ k → ∀ y ∈ gSub f (gmd f k l t), ∃ m u j, (m, u) ∈ gSb k l t ∧ m + (j + 1) = l + k ∧ y = gmd f (j + 1) m u ∧ gNod f j m u := by
  intro k
  induction k with
  | zero =>
    intro l t _ y hy
    have : gSub f (gmd f 0 l t) = [] := by
      show gSub f (gEnd f l (t.headD false)) = []
      cases t.headD false <;> rfl
    rw [this] at hy; cases hy
  | succ k ih =>
    intro l t ht y hy
    obtain ⟨h1, h2⟩ := ghalf_len ht
    have hlo : ∀ z ∈ gSub f (gmd f k (l + 1) (t.take (2 ^ k))), ∃ m u j, (m, u) ∈ gSb (k + 1) l t ∧ m + (j + 1) = l + (k + 1) ∧ z = gmd f (j + 1) m u ∧ gNod f j m u := fun z hz => by
      obtain ⟨m, u, j, g1, g2, g3, g4⟩ := ih _ _ h1 z hz
      exact ⟨m, u, j, List.mem_cons_of_mem _ (List.mem_append_left _ g1), by omega, g3, g4⟩
    have hhi : ∀ z ∈ gSub f (gmd f k (l + 1) (t.drop (2 ^ k))), ∃ m u j, (m, u) ∈ gSb (k + 1) l t ∧ m + (j + 1) = l + (k + 1) ∧ z = gmd f (j + 1) m u ∧ gNod f j m u := fun z hz => by
      obtain ⟨m, u, j, g1, g2, g3, g4⟩ := ih _ _ h2 z hz
      exact ⟨m, u, j, List.mem_cons_of_mem _ (List.mem_append_right _ g1), by omega, g3, g4⟩
    have hm := gm_cases hf l (gmd f k (l + 1) (t.take (2 ^ k))) (gmd f k (l + 1) (t.drop (2 ^ k)))
    have hT : gmd f (k + 1) l t = Gm f l (gmd f k (l + 1) (t.take (2 ^ k))) (gmd f k (l + 1) (t.drop (2 ^ k))) := rfl
    have hself : gNod f k l t → ∃ m u j, (m, u) ∈ gSb (k + 1) l t ∧ m + (j + 1) = l + (k + 1) ∧ gmd f (k + 1) l t = gmd f (j + 1) m u ∧ gNod f j m u := fun h => ⟨l, t, k, List.mem_cons_self, rfl, rfl, h⟩
    rw [← hT] at hm
    generalize hz : gmd f (k + 1) l t = z at hm hy hself
    cases hm with
    | skip _ => exact hlo y hy
    | tag _ _ _ _ => rw [gsub_re] at hy; exact hlo y hy
    | @chain k' b lo hi hs e1 e2 =>
      have hc : f = 3 ∨ f = 4 := by rcases e2 with e | e; exact .inl e.1; exact .inr e.1
      rcases List.mem_cons.1 hy with rfl | hy
      · rw [show gKey f l = 0 from if_neg (by omega)]
        exact hself ⟨hs, fun h => by omega⟩
      · refine hlo y ?_
        rw [e1]
        exact List.mem_cons_of_mem _ hy
    | node hs hcut =>
      rcases List.mem_cons.1 hy with rfl | hy
      · exact hself ⟨hs, fun h => (hcut.2.2.2.2 h.1).2.2 h.2⟩
      · rcases List.mem_append.1 hy with hy | hy
        · exact hlo y hy
        · exact hhi y hy
/-- Of the plain forms each own table with two sides is a node. -/
theorem gsb_sub (hf : f = 1 ∨ f = 2) : ∀ (k l : Nat) (t : List Bool) (m : Nat) (u : List Bool) (j : Nat), t.length = 2 ^ k → (m, u) ∈ gSb k l t → m + (j + 1) = l + k → gNod f j m u → gmd f (j + 1) m u ∈ gSub f (gmd f k l t) := by
  have hF : IsF f := by rcases hf with h | h; exact .inl h; exact .inr (.inl h)
  intro k
  induction k with
  | zero => intro l t m u j _ h; cases h
  | succ k ih =>
    intro l t m u j ht h hmj hn
    obtain ⟨h1, h2⟩ := ghalf_len ht
    have hm := gm_cases hF l (gmd f k (l + 1) (t.take (2 ^ k))) (gmd f k (l + 1) (t.drop (2 ^ k)))
    have hT : gmd f (k + 1) l t = Gm f l (gmd f k (l + 1) (t.take (2 ^ k))) (gmd f k (l + 1) (t.drop (2 ^ k))) := rfl
    rw [← hT] at hm
    rcases List.mem_cons.1 h with h | h
    · injection h with e1 e2
      subst e1 e2
      have hk : j = k := by omega
      subst hk
      generalize gmd f (j + 1) m u = z at hm
      cases hm with
      | skip hs => exact absurd hs hn.1
      | tag e _ _ _ => omega
      | chain _ _ e2 => omega
      | node _ _ => exact List.mem_cons_self
    · generalize gmd f (k + 1) l t = z at hm
      rcases List.mem_append.1 h with h | h
      · have hi := ih _ _ m u j h1 h (by omega) hn
        cases hm with
        | skip hs => exact hi
        | tag e _ _ _ => omega
        | chain _ _ e2 => omega
        | node _ _ => exact List.mem_cons_of_mem _ (List.mem_append_left _ hi)
      · have hi := ih _ _ m u j h2 h (by omega) hn
        cases hm with
        | skip hs =>
          unfold Gskip at hs
          rcases hf with rfl | rfl
          · rw [if_neg (by omega)] at hs; rw [hs]; exact hi
          · rw [if_pos (by omega)] at hs; rw [hs] at hi; cases hi
        | tag e _ _ _ => omega
        | chain _ _ e2 => omega
        | node _ _ => exact List.mem_cons_of_mem _ (List.mem_append_right _ hi)
/-- A node's tree begins at its level. -/
theorem gnod_top (hf : f = 1 ∨ f = 2) (hn : gNod f j m u) : ∃ lo hi, gmd f (j + 1) m u = .node 0 m m lo hi := by
  have hF : IsF f := by rcases hf with h | h; exact .inl h; exact .inr (.inl h)
  have hm := gm_cases hF m (gmd f j (m + 1) (u.take (2 ^ j))) (gmd f j (m + 1) (u.drop (2 ^ j)))
  have hT : gmd f (j + 1) m u = Gm f m (gmd f j (m + 1) (u.take (2 ^ j))) (gmd f j (m + 1) (u.drop (2 ^ j))) := rfl
  rw [← hT] at hm
  generalize gmd f (j + 1) m u = z at hm
  cases hm with
  | skip hs => exact absurd hs hn.1
  | tag e _ _ _ => omega
  | chain _ _ e2 => omega
  | node _ _ => exact ⟨_, _, by rw [if_neg (by omega)]⟩
/-- As many or fewer, by what each is told by. -/
theorem gless (hf : IsF f) (hg : IsF g) (hn : n ≤ 16) (hx : Gw f n x l) (hy : Gw g n y m) (R : Gt → Gt → Prop) (h1 : ∀ z ∈ gSub f x, ∃ w ∈ gSub g y, R z w) (h2 : ∀ z z' w, R z w → R z' w → z = z') : (gWant f x).length ≤ (gWant g y).length := by
  obtain ⟨K, k1, k2⟩ := gonce (gSub f x)
  obtain ⟨L, l1, l2⟩ := gonce (gSub g y)
  rw [gwant_all hf hn hx k1 k2, gwant_all hg hn hy l1 l2]
  let φ : Gt → Gt := fun z => @dite _ (∃ w ∈ gSub g y, R z w) (Classical.propDecidable _) (fun h => Classical.choose h) (fun _ => .nul)
  have hφ : ∀ z ∈ K, φ z ∈ gSub g y ∧ R z (φ z) := fun z hz => by
    have h := h1 z ((k2 z).1 hz)
    have e : φ z = Classical.choose h := dif_pos h
    rw [e]
    exact Classical.choose_spec h
  have := nodup_le (K.map φ) L (nodup_map K k1 (fun z hz z' hz' e => h2 z z' (φ z) (hφ z hz).2 (by rw [e]; exact (hφ z' hz').2))) (fun w hw => by
    obtain ⟨z, hz, rfl⟩ := List.mem_map.1 hw
    exact (l2 _).2 (hφ z hz).1)
  rw [List.length_map] at this
  exact this
theorem gplain_one (hl : m + (j + 1) = n) (hu : u.length = 2 ^ (j + 1)) (h : u.take (2 ^ j) ≠ u.drop (2 ^ j)) : gNod 1 j m u := by
  obtain ⟨h1, h2⟩ := ghalf_len hu
  refine ⟨fun hs => ?_, fun h => by omega⟩
  unfold Gskip at hs
  rw [if_neg (by omega)] at hs
  exact h (gmd_inj (n := n) (.inl rfl) (by omega) h1 h2 hs)
theorem gplain_two (hl : m + (j + 1) = n) (hu : u.length = 2 ^ (j + 1)) (h : ¬ gNul (u.drop (2 ^ j))) : gNod 2 j m u := by
  obtain ⟨h1, h2⟩ := ghalf_len hu
  refine ⟨fun hs => ?_, fun h => by omega⟩
  unfold Gskip at hs
  rw [if_pos (by omega)] at hs
  exact h ((gnul_iff (n := n) (.inr (.inl rfl)) (by omega) h2).1 hs)
theorem gnod_ne (hf : f ≠ 2 ∧ f ≠ 4) (h : gNod f j m u) : u.take (2 ^ j) ≠ u.drop (2 ^ j) := fun e => by
  refine h.1 ?_
  unfold Gskip
  rw [if_neg (by omega), e]
theorem gnod_nul (hF : IsF f) (hf : f = 2 ∨ f = 4) (hl : m + (j + 1) = n) (hu : u.length = 2 ^ (j + 1)) (h : gNod f j m u) : ¬ gNul (u.drop (2 ^ j)) := fun e => by
  refine h.1 ?_
  unfold Gskip
  rw [if_pos (by omega)]
  exact (gnul_iff (n := n) hF (by omega) (ghalf_len hu).2).2 e
theorem gtop_inj (hg : g = 1 ∨ g = 2) {j' m' : Nat} {u' : List Bool} (h1 : m + (j + 1) = n) (h2 : m' + (j' + 1) = n) (hu : u.length = 2 ^ (j + 1)) (hu' : u'.length = 2 ^ (j' + 1)) (n1 : gNod g j m u) (n2 : gNod g j' m' u') (e : gmd g (j + 1) m u = gmd g (j' + 1) m' u') : m = m' ∧ j = j' ∧ u = u' := by
  have hG : IsF g := by rcases hg with h | h; exact .inl h; exact .inr (.inl h)
  obtain ⟨a, b, q1⟩ := gnod_top hg n1
  obtain ⟨c, d, q2⟩ := gnod_top hg n2
  have hm : m = m' := by
    rw [q1, q2] at e
    injection e
  subst hm
  have hj : j = j' := by omega
  subst hj
  exact ⟨rfl, rfl, gmd_inj (n := n) hG h1 hu hu' e⟩
/-- CBDD and TBDD against BDD, CZDD against ZDD. -/
theorem gsmall (hf : IsF f) (hg : (f ≠ 2 ∧ f ≠ 4) ∧ g = 1 ∨ (f = 2 ∨ f = 4) ∧ g = 2) (hn : n ≤ 16) (ht : t.length = 2 ^ n) : (gWant f (gmd f n 0 t)).length ≤ (gWant g (gmd g n 0 t)).length := by
  have hg12 : g = 1 ∨ g = 2 := by rcases hg with h | h; exact .inl h.2; exact .inr h.2
  have hG : IsF g := by rcases hg12 with h | h; exact .inl h; exact .inr (.inl h)
  have hw1 : Gw f n (gmd f n 0 t) 0 := gmd_wt hf n 0 t (by omega)
  have hw2 : Gw g n (gmd g n 0 t) 0 := gmd_wt hG n 0 t (by omega)
  refine gless hf hG hn hw1 hw2 (fun z w => ∃ m u j, m + (j + 1) = n ∧ u.length = 2 ^ (j + 1) ∧ z = gmd f (j + 1) m u ∧ w = gmd g (j + 1) m u ∧ gNod g j m u) (fun z hz => ?_) (fun z z' w h h' => ?_)
  · obtain ⟨m, u, j, g1, g2, g3, g4⟩ := gsub_sb hf n 0 t ht z hz
    obtain ⟨j', _, g5, g6⟩ := gsb_mem n 0 t m u ht g1
    have hj : j' = j := by omega
    subst hj
    have hnod : gNod g j' m u := by
      rcases hg with ⟨e1, rfl⟩ | ⟨e1, rfl⟩
      · exact gplain_one (n := n) (by omega) g6 (gnod_ne e1 g4)
      · exact gplain_two (n := n) (by omega) g6 (gnod_nul (n := n) hf e1 (by omega) g6 g4)
    exact ⟨_, gsb_sub hg12 n 0 t m u j' ht g1 g2 hnod, m, u, j', by omega, g6, g3, rfl, hnod⟩
  · obtain ⟨m, u, j, a1, a2, a3, a4, a5⟩ := h
    obtain ⟨m', u', j', b1, b2, b3, b4, b5⟩ := h'
    obtain ⟨rfl, rfl, rfl⟩ := gtop_inj hg12 a1 b1 a2 b2 a5 b5 (a4.symm.trans b4)
    rw [a3, b3]
/-- A level of a tagged diagram that the tag alone doesn't tell: it plays no part. -/
theorem gfree (hl : m + j = n) (ht : t.length = 2 ^ j) (h1 : gmd 5 j m t ≠ .nul) (h2 : ¬ Gg m (gmd 5 j m t)) : ∃ i, j = i + 1 ∧ t.take (2 ^ i) = t.drop (2 ^ i) := by
  have h5 : IsF 5 := .inr (.inr (.inr (.inr rfl)))
  cases j with
  | zero =>
    exfalso
    match t, ht with
    | [true], _ => exact h2 (show (if (5 : Nat) = 5 then m else 0) = m by rw [if_pos rfl])
    | [false], _ => exact h1 rfl
  | succ i =>
    refine ⟨i, rfl, ?_⟩
    by_cases e : t.take (2 ^ i) = t.drop (2 ^ i)
    · exact e
    · exfalso
      obtain ⟨l1, l2⟩ := ghalf_len ht
      have hm := gm_cases h5 m (gmd 5 i (m + 1) (t.take (2 ^ i))) (gmd 5 i (m + 1) (t.drop (2 ^ i)))
      have hT : gmd 5 (i + 1) m t = Gm 5 m (gmd 5 i (m + 1) (t.take (2 ^ i))) (gmd 5 i (m + 1) (t.drop (2 ^ i))) := rfl
      rw [← hT] at hm
      generalize gmd 5 (i + 1) m t = z at hm h2
      cases hm with
      | skip hs =>
        unfold Gskip at hs
        rw [if_neg (by omega)] at hs
        exact e (gmd_inj (n := n) h5 (by omega) l1 l2 hs)
      | tag _ _ _ hg =>
        refine h2 ?_
        cases hx : gmd 5 i (m + 1) (t.take (2 ^ i)) with
        | nul => rw [hx] at hg; exact hg.elim
        | one k => exact rfl
        | node k t b lo hi => exact rfl
      | chain _ _ e2 => omega
      | node _ _ => exact h2 (show (if (5 : Nat) = 5 then m else 0) = m by rw [if_pos rfl])
/-- TBDD against ZDD. -/
theorem gsmall_tz (hn : n ≤ 16) (ht : t.length = 2 ^ n) : (gWant 5 (gmd 5 n 0 t)).length ≤ (gWant 2 (gmd 2 n 0 t)).length := by
  have h5 : IsF 5 := .inr (.inr (.inr (.inr rfl)))
  have h2 : IsF 2 := .inr (.inl rfl)
  have hw1 : Gw 5 n (gmd 5 n 0 t) 0 := gmd_wt h5 n 0 t (by omega)
  have hw2 : Gw 2 n (gmd 2 n 0 t) 0 := gmd_wt h2 n 0 t (by omega)
  refine gless h5 h2 hn hw1 hw2 (fun z w => ∃ m u j, m + (j + 1) = n ∧ u.length = 2 ^ (j + 1) ∧ z = gmd 5 (j + 1) m u ∧ gNod 5 j m u ∧
    (w = gmd 2 (j + 1) m u ∧ gNod 2 j m u ∨ ∃ i, j = i + 1 ∧ gNul (u.drop (2 ^ j)) ∧ w = gmd 2 (i + 1) (m + 1) (u.take (2 ^ j)) ∧ gNod 2 i (m + 1) (u.take (2 ^ j)) ∧ (u.take (2 ^ j)).take (2 ^ i) = (u.take (2 ^ j)).drop (2 ^ i))) (fun z hz => ?_) (fun z z' w h h' => ?_)
  · obtain ⟨m, u, j, g1, g2, g3, g4⟩ := gsub_sb h5 n 0 t ht z hz
    obtain ⟨j', _, g5, g6⟩ := gsb_mem n 0 t m u ht g1
    have hj : j' = j := by omega
    subst hj
    obtain ⟨l1, l2⟩ := ghalf_len g6
    by_cases hd : gNul (u.drop (2 ^ j'))
    · have hy : gmd 5 j' (m + 1) (u.drop (2 ^ j')) = .nul := (gnul_iff (n := n) h5 (by omega) l2).2 hd
      have hx : gmd 5 j' (m + 1) (u.take (2 ^ j')) ≠ .nul := fun e => g4.1 (by unfold Gskip; rw [if_neg (by omega), e, hy])
      have hg : ¬ Gg (m + 1) (gmd 5 j' (m + 1) (u.take (2 ^ j'))) := fun e => g4.2 ⟨rfl, hy, e⟩
      obtain ⟨i, rfl, hi⟩ := gfree (n := n) (m := m + 1) (j := j') (by omega) l1 hx hg
      have hnn : ¬ gNul ((u.take (2 ^ (i + 1))).drop (2 ^ i)) := fun e => by
        have := gnul_append (hi ▸ e) e
        rw [List.take_append_drop] at this
        exact hx ((gnul_iff (n := n) h5 (by omega) l1).2 this)
      have hnod := gplain_two (n := n) (m := m + 1) (j := i) (by omega) l1 hnn
      exact ⟨_, gsb_sub (.inr rfl) n 0 t (m + 1) _ i ht (gsb_take n 0 t m i u ht g1 (by omega)) (by omega) hnod, m, u, i + 1, by omega, g6, g3, g4, .inr ⟨i, rfl, hd, rfl, hnod, hi⟩⟩
    · have hnod := gplain_two (n := n) (m := m) (j := j') (by omega) g6 hd
      exact ⟨_, gsb_sub (.inr rfl) n 0 t m u j' ht g1 g2 hnod, m, u, j', by omega, g6, g3, g4, .inl ⟨rfl, hnod⟩⟩
  · obtain ⟨m, u, j, a1, a2, a3, a4, a5⟩ := h
    obtain ⟨m', u', j', b1, b2, b3, b4, b5⟩ := h'
    obtain ⟨l1, l2⟩ := ghalf_len a2
    obtain ⟨l1', l2'⟩ := ghalf_len b2
    rcases a5 with ⟨c1, c2⟩ | ⟨i, rfl, c1, c2, c3, c4⟩
    · rcases b5 with ⟨d1, d2⟩ | ⟨i', rfl, d1, d2, d3, d4⟩
      · obtain ⟨rfl, rfl, rfl⟩ := gtop_inj (.inr rfl) a1 b1 a2 b2 c2 d2 (c1.symm.trans d1)
        rw [a3, b3]
      · obtain ⟨_, rfl, e⟩ := gtop_inj (n := n) (.inr rfl) a1 (by omega) a2 l1' c2 d3 (c1.symm.trans d2)
        rw [← e] at d4
        exact absurd d4 (gnod_ne (by omega) a4)
    · rcases b5 with ⟨d1, d2⟩ | ⟨i', rfl, d1, d2, d3, d4⟩
      · obtain ⟨_, rfl, e⟩ := gtop_inj (n := n) (.inr rfl) (by omega) b1 l1 b2 c3 d2 (c2.symm.trans d1)
        rw [e] at c4
        exact absurd c4 (gnod_ne (by omega) b4)
      · obtain ⟨em, rfl, e⟩ := gtop_inj (n := n) (.inr rfl) (by omega) (by omega) l1 l1' c3 d3 (c2.symm.trans d2)
        have hm : m = m' := by omega
        subst hm
        have hdd := gnul_eq c1 d1 (by rw [l2, l2'])
        have hu : u = u' := by rw [← List.take_append_drop (2 ^ (i + 1)) u, ← List.take_append_drop (2 ^ (i + 1)) u', e, hdd]
        rw [a3, b3, hu]
end
end StoreMath
namespace Go.Proofs.YtdniokdgghpkbaaGreatDoor
open Go.RowKit Sq StoreMath SetMath PermMath
set_option maxHeartbeats 8000000
set_option maxRecDepth 100000

theorem own_tb {w : World} {base : Nat} {v : Value} {T : List Bool} (h : Su.Own w base 4 v (Su.bl T)) (hT : 0 < T.length) : TB w v T := by
  obtain ⟨g, c, rfl, h1, h2, h3, -⟩ := h.form (by rw [Su.bl_len]; exact hT)
  rw [Su.bl_len] at h h3 ⊢
  exact ⟨g, 0, c, rfl, h3, h2, fun k b hk => by rw [Nat.zero_add]; exact h.cell (Su.bl_at hk)⟩
theorem szL_small (p : List Int) (ws : List Nat) (hn : p.length ≤ 6) : ∃ m1 m2 m3 m4 m5 : Nat, szL p ws = [(m1 : Int), (m2 : Int), (m3 : Int), (m4 : Int), (m5 : Int)] ∧ m3 ≤ m1 ∧ m4 ≤ m2 ∧ m5 ≤ m1 ∧ m5 ≤ m2 :=
  ⟨_, _, _, _, _, rfl, gsmall (f := 3) (g := 1) (n := p.length) (t := lvT p ws) (by unfold IsF; omega) (.inl ⟨by omega, rfl⟩) (by omega) (lvT_len p ws), gsmall (f := 4) (g := 2) (n := p.length) (t := lvT p ws) (by unfold IsF; omega) (.inr ⟨by omega, rfl⟩) (by omega) (lvT_len p ws), gsmall (f := 5) (g := 1) (n := p.length) (t := lvT p ws) (by unfold IsF; omega) (.inl ⟨by omega, rfl⟩) (by omega) (lvT_len p ws), gsmall_tz (n := p.length) (t := lvT p ws) (by omega) (lvT_len p ws)⟩
theorem msfar_any {w : World} {u : Value} {xs : List Int} (hu : Od.SI w u xs) {A : Option Addr} {n : Int} {m c : Nat} (htz : Tz64 w) (hfar : 6 < xs.length ∨ 2000 < m) : Calls Tryz.prog 5 #[u, .agg #[.int .i64 n, .slice A m c]] w (RetV w (.bool true)) := by
  have HA := Lib.hid (fun W (hb : Below w.heap.size w W) => malive_any W (htz.below hb))
  obtain ⟨B, d, rfl, -, -⟩ := hu
  generalize xs.length = q at *
  obtain ⟨w0, hw0⟩ : ∃ W, W = w.alloc (.cells #[.int .i64 n, .slice A m c] 58) := ⟨_, rfl⟩
  have hb0 : Below w.heap.size w w0 := by rw [hw0]; exact new_below w _
  have hg0 : w0.heap[w.heap.size]? = some (.cells #[.int .i64 n, .slice A m c] 58) := by rw [hw0]; exact alloc_new _ _
  have hlt : w.heap.size < w0.heap.size := by rw [hw0, Nd.alloc_size]; omega
  have HG : Hid (∀ W, Below w0.heap.size w0 W → W.cell? ⟨w.heap.size, 0, none⟩ = some (.int .i64 n) ∧ W.cell? ⟨w.heap.size, 1, none⟩ = some (.slice A m c)) := Lib.hid (fun W hb => by
    have := (hb.block _ hlt).trans hg0
    exact ⟨block_cell this, block_cell this⟩)
  have HA2 := Lib.hid (HA.out w0 hb0)
  have HB0 := Lib.hid hb0
  clear hb0 hg0 hlt HA htz
  by_cases h6 : 6 < q
  · have h6' : (6 : Int) < (q : Int) := by omega
    clear hfar h6
    go_enter Tryz.func5, Tryz.ntmps5
    go_upto_region 1 with fail
    rw [← hw0]
    clear hw0
    go_wp2_with fail
    refine HA2.out.mono ?_
    rintro e w1 ⟨rfl, hb1⟩
    have HE := Lib.hid (Below.step HB0.out hb1)
    clear hb1
    go_wp2_with fail
    go_ret
    exact ⟨rfl, HE.out⟩
  · have h6' : ¬ (6 : Int) < (q : Int) := by omega
    have hm : (2000 : Int) < (m : Int) := by omega
    clear hfar h6
    go_enter Tryz.func5, Tryz.ntmps5
    go_upto_region 1 with fail
    rw [← hw0]
    clear hw0
    go_wp2_with fail
    refine HA2.out.mono ?_
    rintro e w1 ⟨rfl, hb1⟩
    obtain ⟨d0, d1⟩ := HG.out w1 hb1
    have HE := Lib.hid (Below.step HB0.out hb1)
    clear hb1
    go_wp2_with fail
    go_ret
    exact ⟨rfl, HE.out⟩
theorem msno_any {w : World} {u v : Value} {xs : List Int} (hu : Od.SI w u xs) {n : Int} {ws : List Nat} (hv : Su.IsSet w v n ws) (htz : Tz64 w) (h6 : xs.length ≤ 6) (hm : ws.length ≤ 2000) (hr : ¬ Rt xs) : Calls Tryz.prog 5 #[u, v] w (RetV w (.bool true)) := by
  have HA := Lib.hid (fun W (hb : Below w.heap.size w W) => malive_any W (htz.below hb))
  obtain ⟨A, c, rfl, -⟩ := set_slice hv
  obtain ⟨w0, hw0⟩ : ∃ W, W = w.alloc (.cells #[.int .i64 n, .slice A ws.length c] 58) := ⟨_, rfl⟩
  have hb0 : Below w.heap.size w w0 := by rw [hw0]; exact new_below w _
  have hg0 : w0.heap[w.heap.size]? = some (.cells #[.int .i64 n, .slice A ws.length c] 58) := by rw [hw0]; exact alloc_new _ _
  have hlt : w.heap.size < w0.heap.size := by rw [hw0, Nd.alloc_size]; omega
  have HG : Hid (∀ W, Below w0.heap.size w0 W → W.cell? ⟨w.heap.size, 0, none⟩ = some (.int .i64 n) ∧ W.cell? ⟨w.heap.size, 1, none⟩ = some (.slice A ws.length c)) := Lib.hid (fun W hb => by
    have := (hb.block _ hlt).trans hg0
    exact ⟨block_cell this, block_cell this⟩)
  have HA2 := Lib.hid (HA.out w0 hb0)
  have HB0 := Lib.hid hb0
  have HSET := Lib.hid (fun W (hb : Below w.heap.size w W) => hv.below hb)
  have HU := Lib.hid (fun W (hb : Below w.heap.size w W) => hu.below hb)
  have HO := Lib.hid (fun W (hb : Below w.heap.size w W) => Od.of_no u xs W (hu.below hb) (by omega) hr)
  have HP := Lib.hid (fun W (hb : Below w.heap.size w W) => Su.refPerm_f (si_su (hu.below hb)) (by omega) (fun h => hr ⟨h.1, h.2⟩))
  have HZ := Lib.hid (fun W (hb : Below w.heap.size w W) => msz_nil (hv.below hb))
  obtain ⟨B, d, rfl, -, -⟩ := hu
  generalize xs.length = q at *
  have h6' : ¬ (6 : Int) < (q : Int) := by omega
  have hm' : ¬ (2000 : Int) < ((ws.length : Nat) : Int) := by omega
  generalize ws.length = m at *
  clear hb0 hg0 hlt HA htz hv hr h6 hm HU HSET
  go_enter Tryz.func5, Tryz.ntmps5
  go_upto_region 1 with fail
  rw [← hw0]
  clear hw0
  go_wp2_with fail
  refine HA2.out.mono ?_
  rintro e w1 ⟨rfl, hb1⟩
  obtain ⟨d0, d1⟩ := HG.out w1 hb1
  have HB1 := Lib.hid (Below.step HB0.out hb1)
  have HO1 := Lib.hid (HO.out w1 HB1.out)
  have HC1 := Lib.hid hb1
  clear hb1
  go_wp2_with fail
  refine HO1.out.mono ?_
  clear d0 d1
  rintro e w2 ⟨rfl, hb2⟩
  obtain ⟨d0, d1⟩ := HG.out w2 (Below.step HC1.out hb2)
  have HB2 := Lib.hid (Below.step HB1.out hb2)
  have HZ2 := Lib.hid (HZ.out w2 HB2.out)
  clear hb2
  go_wp2_with fail
  refine HZ2.out.mono ?_
  clear d0 d1
  rintro e w3 ⟨rfl, hb3⟩
  have HB3 := Lib.hid (Below.step HB2.out hb3)
  have HP3 := Lib.hid (HP.out w3 HB3.out)
  clear hb3
  go_wp2_with fail
  refine HP3.out.mono ?_
  rintro e w4 ⟨rfl, rfl⟩
  go_wp2_with fail
  go_ret
  exact ⟨rfl, HB3.out⟩
theorem msbad_any {w : World} {u v : Value} {xs : List Int} (hu : Od.SI w u xs) {n : Int} {ws : List Nat} (hv : Su.IsSet w v n ws) (hw : ∀ x ∈ ws, x < 2 ^ 64) (htz : Tz64 w) (h6 : xs.length ≤ 6) (hm : ws.length ≤ 2000) (hr : Rt xs) (hbad : rightB n ws = false ∨ n ≠ (xs.length : Int)) : Calls Tryz.prog 5 #[u, v] w (RetV w (.bool true)) := by
  have HA := Lib.hid (fun W (hb : Below w.heap.size w W) => malive_any W (htz.below hb))
  obtain ⟨A, c, rfl, -⟩ := set_slice hv
  obtain ⟨w0, hw0⟩ : ∃ W, W = w.alloc (.cells #[.int .i64 n, .slice A ws.length c] 58) := ⟨_, rfl⟩
  have hb0 : Below w.heap.size w w0 := by rw [hw0]; exact new_below w _
  have hg0 : w0.heap[w.heap.size]? = some (.cells #[.int .i64 n, .slice A ws.length c] 58) := by rw [hw0]; exact alloc_new _ _
  have hlt : w.heap.size < w0.heap.size := by rw [hw0, Nd.alloc_size]; omega
  have HG : Hid (∀ W, Below w0.heap.size w0 W → W.cell? ⟨w.heap.size, 0, none⟩ = some (.int .i64 n) ∧ W.cell? ⟨w.heap.size, 1, none⟩ = some (.slice A ws.length c)) := Lib.hid (fun W hb => by
    have := (hb.block _ hlt).trans hg0
    exact ⟨block_cell this, block_cell this⟩)
  have HA2 := Lib.hid (HA.out w0 hb0)
  have HB0 := Lib.hid hb0
  have HSET := Lib.hid (fun W (hb : Below w.heap.size w W) => hv.below hb)
  have HU := Lib.hid (fun W (hb : Below w.heap.size w W) => hu.below hb)
  have HO := Lib.hid (fun W (hb : Below w.heap.size w W) => Od.of_yes u xs W (hu.below hb) hr)
  have HP := Lib.hid (fun W (hb : Below w.heap.size w W) => Su.refPerm_t (si_su (hu.below hb)) ⟨hr.1, hr.2⟩)
  have HZ := Lib.hid (fun W (hb : Below w.heap.size w W) go (ho : Od.Ord W go xs) => msz_bad ho (hv.below hb) hw hbad)
  have HR := Lib.hid (fun b (hb' : rightB n ws = b) W (hb : Below w.heap.size w W) => Su.rr_b (hv.below hb) hw hb')
  obtain ⟨B, d, rfl, -, -⟩ := hu
  have hn0 : rightB n ws = true → ((n != (xs.length : Int)) = true) := fun h => by rw [bne_iff_ne]; exact hbad.resolve_left (by rw [h]; decide)
  have HN0 := Lib.hid hn0
  have h6' : ¬ (6 : Int) < ((xs.length : Nat) : Int) := by omega
  have hm' : ¬ (2000 : Int) < ((ws.length : Nat) : Int) := by omega
  generalize ws.length = m at *
  generalize xs.length = q at *
  clear hb0 hg0 hlt HA htz hv hr h6 hm HU HSET hw hn0 hbad
  go_enter Tryz.func5, Tryz.ntmps5
  go_upto_region 1 with fail
  rw [← hw0]
  clear hw0
  go_wp2_with fail
  refine HA2.out.mono ?_
  rintro e w1 ⟨rfl, hb1⟩
  obtain ⟨d0, d1⟩ := HG.out w1 hb1
  have HB1 := Lib.hid (Below.step HB0.out hb1)
  have HO1 := Lib.hid (HO.out w1 HB1.out)
  have HC1 := Lib.hid hb1
  clear hb1
  go_wp2_with fail
  refine HO1.out.mono ?_
  clear d0 d1
  rintro e w2 ⟨go, rfl, -, ho, hb2⟩
  obtain ⟨d0, d1⟩ := HG.out w2 (Below.step HC1.out hb2)
  have HB2 := Lib.hid (Below.step HB1.out hb2)
  have HC2 := Lib.hid (Below.step HC1.out hb2)
  have HZ2 := Lib.hid (HZ.out w2 HB2.out go ho)
  clear hb2 ho
  go_wp2_with fail
  refine HZ2.out.mono ?_
  clear d0 d1
  rintro e w3 ⟨rfl, hb3⟩
  have HB3 := Lib.hid (Below.step HB2.out hb3)
  have HC3 := Lib.hid (Below.step HC2.out hb3)
  have HP3 := Lib.hid (HP.out w3 HB3.out)
  clear hb3
  obtain ⟨d0, d1⟩ := HG.out w3 HC3.out
  go_wp2_with fail
  refine HP3.out.mono ?_
  rintro e w4 ⟨rfl, rfl⟩
  by_cases hrb : rightB n ws = true
  · have HR4 := Lib.hid (HR.out true hrb w3 HB3.out)
    have hne := HN0.out hrb
    clear hrb
    go_wp2_with fail
    refine HR4.out.mono ?_
    clear d0 d1
    rintro e w5 ⟨rfl, hb5⟩
    obtain ⟨d0, d1⟩ := HG.out w5 (Below.step HC3.out hb5)
    have HE := Lib.hid (Below.step HB3.out hb5)
    clear hb5
    go_wp2_with fail
    go_ret
    exact ⟨rfl, HE.out⟩
  · have HR4 := Lib.hid (HR.out false (by simpa using hrb) w3 HB3.out)
    clear hrb
    go_wp2_with fail
    refine HR4.out.mono ?_
    clear d0 d1
    rintro e w5 ⟨rfl, hb5⟩
    obtain ⟨d0, d1⟩ := HG.out w5 (Below.step HC3.out hb5)
    have HE := Lib.hid (Below.step HB3.out hb5)
    clear hb5
    go_wp2_with fail
    go_ret
    exact ⟨rfl, HE.out⟩
end Go.Proofs.YtdniokdgghpkbaaGreatDoor
namespace Go.Proofs.YtdniokdgghpkbaaGreatDoor
open Go.RowKit Sq StoreMath SetMath PermMath
set_option maxHeartbeats 8000000
set_option maxRecDepth 100000

theorem set_eq {w : World} {v : Value} {n m : Int} {ws : List Nat} (h : Su.IsSet w v n ws) (e : n = m) : Su.IsSet w v m ws := e ▸ h
theorem msok_any {w : World} {u v : Value} {xs : List Int} (hu : Od.SI w u xs) {ws : List Nat} (hv : Su.IsSet w v (xs.length : Int) ws) (htz : Tz64 w) (h6 : xs.length ≤ 6) (hm : ws.length ≤ 2000) (hr : Rt xs) (hrs : RightS xs.length ws) : Calls Tryz.prog 5 #[u, v] w (RetV w (.bool true)) := by
  obtain ⟨n, hn⟩ : ∃ n : Int, n = (xs.length : Int) := ⟨_, rfl⟩
  rw [← hn] at hv
  have HA := Lib.hid (fun W (hb : Below w.heap.size w W) => malive_any W (htz.below hb))
  obtain ⟨A, c, rfl, -⟩ := set_slice hv
  obtain ⟨w0, hw0⟩ : ∃ W, W = w.alloc (.cells #[.int .i64 n, .slice A ws.length c] 58) := ⟨_, rfl⟩
  have hb0 : Below w.heap.size w w0 := by rw [hw0]; exact new_below w _
  have hg0 : w0.heap[w.heap.size]? = some (.cells #[.int .i64 n, .slice A ws.length c] 58) := by rw [hw0]; exact alloc_new _ _
  have hlt : w.heap.size < w0.heap.size := by rw [hw0, Nd.alloc_size]; omega
  have HG : Hid (∀ W, Below w0.heap.size w0 W → W.cell? ⟨w.heap.size, 0, none⟩ = some (.int .i64 n) ∧ W.cell? ⟨w.heap.size, 1, none⟩ = some (.slice A ws.length c)) := Lib.hid (fun W hb => by
    have := (hb.block _ hlt).trans hg0
    exact ⟨block_cell this, block_cell this⟩)
  have HA2 := Lib.hid (HA.out w0 hb0)
  have HB0 := Lib.hid hb0
  have HSET := Lib.hid (fun W (hb : Below w.heap.size w W) => hv.below hb)
  have HU := Lib.hid (fun W (hb : Below w.heap.size w W) => hu.below hb)
  have HO := Lib.hid (fun W (hb : Below w.heap.size w W) => Od.of_yes u xs W (hu.below hb) hr)
  have HP := Lib.hid (fun W (hb : Below w.heap.size w W) => Su.refPerm_t (si_su (hu.below hb)) ⟨hr.1, hr.2⟩)
  have HZ := Lib.hid (fun W (hb : Below w.heap.size w W) go (ho : Od.Ord W go xs) => msz_yes ho (set_eq (hv.below hb) hn) hrs (htz.below hb) (by omega))
  have HR := Lib.hid (fun W (hb : Below w.heap.size w W) => Su.rr_b (b := true) (hv.below hb) hrs.lt (by rw [hn]; exact Su.rightB_t hrs))
  have HT := Lib.hid (fun W (hb : Below w.heap.size w W) => Su.table_any xs.length _ ws W (set_eq (hv.below hb) hn) hrs)
  have HM := Lib.hid (fun W (hb : Below w.heap.size w W) x (hx : TB W x (tab xs.length ws)) => msizes_any hr h6 (hu.below hb) hx)
  have HI := Lib.hid (fun W x y (h1 : Su.SI W x (szL xs ws)) (h2 : Su.SI W y (szL xs ws)) => mints_yes x y _ W h1 h2 (by rw [szL_len]; decide))
  have HTP := Lib.hid (show 0 < (tab xs.length ws).length by rw [tab_len]; exact Nat.two_pow_pos _)
  obtain ⟨m1, m2, m3, m4, m5, hL, k31, k42, k51, k52⟩ := szL_small xs ws h6
  rw [hL] at HZ HM HI
  have HK := Lib.hid (And.intro k31 (And.intro k42 (And.intro k51 k52)))
  clear k31 k42 k51 k52
  obtain ⟨B, d, rfl, -, -⟩ := hu
  have hne : (n != (xs.length : Int)) = false := by rw [bne_eq_false_iff_eq]; exact hn
  have h6' : ¬ (6 : Int) < ((xs.length : Nat) : Int) := by omega
  have hm' : ¬ (2000 : Int) < ((ws.length : Nat) : Int) := by omega
  generalize tab xs.length ws = T at *
  generalize ws.length = m at *
  clear hb0 hg0 hlt HA htz hv hr h6 hm HU HSET hrs hL hn
  generalize xs.length = q at *
  go_enter Tryz.func5, Tryz.ntmps5
  go_upto_region 1 with fail
  rw [← hw0]
  clear hw0
  go_wp2_with fail
  refine HA2.out.mono ?_
  rintro e w1 ⟨rfl, hb1⟩
  obtain ⟨d0, d1⟩ := HG.out w1 hb1
  have HB1 := Lib.hid (Below.step HB0.out hb1)
  have HO1 := Lib.hid (HO.out w1 HB1.out)
  have HC1 := Lib.hid hb1
  clear hb1
  go_wp2_with fail
  refine HO1.out.mono ?_
  clear d0 d1
  rintro e w2 ⟨go, rfl, -, ho, hb2⟩
  obtain ⟨d0, d1⟩ := HG.out w2 (Below.step HC1.out hb2)
  have HB2 := Lib.hid (Below.step HB1.out hb2)
  have HC2 := Lib.hid (Below.step HC1.out hb2)
  have HZ2 := Lib.hid (HZ.out w2 HB2.out go ho)
  clear hb2 ho
  go_wp2_with fail
  refine HZ2.out.mono ?_
  clear d0 d1
  rintro e w3 ⟨l, rfl, hown3, hb3⟩
  have HB3 := Lib.hid (Below.step HB2.out hb3)
  have HC3 := Lib.hid (Below.step HC2.out hb3)
  have HP3 := Lib.hid (HP.out w3 HB3.out)
  have HL3 := Lib.hid hown3
  have HR3 := Lib.hid (HR.out w3 HB3.out)
  clear hb3 hown3
  obtain ⟨d0, d1⟩ := HG.out w3 HC3.out
  go_wp2_with fail
  refine HP3.out.mono ?_
  rintro e w4 ⟨rfl, rfl⟩
  go_wp2_with fail
  refine HR3.out.mono ?_
  clear d0 d1
  rintro e w5 ⟨rfl, hb5⟩
  obtain ⟨d0, d1⟩ := HG.out w5 (Below.step HC3.out hb5)
  have HB5 := Lib.hid (Below.step HB3.out hb5)
  have HL5 := Lib.hid (HL3.out.below hb5)
  have HT5 := Lib.hid (HT.out w5 HB5.out)
  clear hb5
  go_wp2_with fail
  refine HT5.out.mono ?_
  clear d0 d1
  rintro e w6 ⟨tv, rfl, hown6, hb6⟩
  have HB6 := Lib.hid (Below.step HB5.out hb6)
  have HL6 := Lib.hid (HL5.out.below hb6)
  have HM6 := Lib.hid (HM.out w6 HB6.out tv (own_tb hown6 HTP.out))
  clear hb6 hown6
  go_wp2_with fail
  refine HM6.out.mono ?_
  rintro e w7 ⟨lv, rfl, hown7, hb7⟩
  have HB7 := Lib.hid (Below.step HB6.out hb7)
  have HL7 := Lib.hid (HL6.out.below hb7)
  have HI7 := Lib.hid (HI.out w7 l lv HL7.out.sv hown7.sv)
  clear hb7 hown7
  go_wp2_with fail
  refine HI7.out.mono ?_
  rintro e w8 ⟨rfl, hb8⟩
  have HB8 := Lib.hid (Below.step HB7.out hb8)
  have hown8 := HL7.out.below hb8
  clear hb8
  obtain ⟨gl, cl, hl, -⟩ := hown8.form (by show 0 < 5; decide)
  rw [show (Su.is [(m1 : Int), (m2 : Int), (m3 : Int), (m4 : Int), (m5 : Int)]).length = 5 from rfl] at hl
  subst hl
  have x0 : w8.cell? ⟨gl, 0, none⟩ = some (.int .i64 (m1 : Int)) := hown8.cell (k := 0) rfl
  have x1 : w8.cell? ⟨gl, 1, none⟩ = some (.int .i64 (m2 : Int)) := hown8.cell (k := 1) rfl
  have x2 : w8.cell? ⟨gl, 2, none⟩ = some (.int .i64 (m3 : Int)) := hown8.cell (k := 2) rfl
  have x3 : w8.cell? ⟨gl, 3, none⟩ = some (.int .i64 (m4 : Int)) := hown8.cell (k := 3) rfl
  have x4 : w8.cell? ⟨gl, 4, none⟩ = some (.int .i64 (m5 : Int)) := hown8.cell (k := 4) rfl
  obtain ⟨k31, k42, k51, k52⟩ := HK.out
  have e31 : decide ((m3 : Int) ≤ (m1 : Int)) = true := decide_eq_true (by omega)
  have e42 : decide ((m4 : Int) ≤ (m2 : Int)) = true := decide_eq_true (by omega)
  have e51 : decide ((m5 : Int) ≤ (m1 : Int)) = true := decide_eq_true (by omega)
  have e52 : decide ((m5 : Int) ≤ (m2 : Int)) = true := decide_eq_true (by omega)
  have f31 : decide (m3 ≤ m1) = true := decide_eq_true k31
  have f42 : decide (m4 ≤ m2) = true := decide_eq_true k42
  have f51 : decide (m5 ≤ m1) = true := decide_eq_true k51
  have f52 : decide (m5 ≤ m2) = true := decide_eq_true k52
  clear hown8 k31 k42 k51 k52 HK HI7 HL7 HM6 HT5 HR3 HP3 HZ2 HO1 HZ HM HI HT HR HP HO HG
  go_upto_region 13 with fail
  go_quiet (fail)
  go_wp2_with fail
  go_ret
  exact ⟨rfl, Nd.below_drewN HB8.out _⟩
theorem lmsizes_any {w : World} {u v : Value} {xs : List Int} (hu : Od.SI w u xs) {n : Int} {ws : List Nat} (hv : Su.IsSet w v n ws) (hw : ∀ x ∈ ws, x < 2 ^ 64) (htz : Tz64 w) : Calls Tryz.prog 5 #[u, v] w (RetV w (.bool true)) := by
  by_cases hfar : 6 < xs.length ∨ 2000 < ws.length
  · obtain ⟨A, c, rfl, -⟩ := set_slice hv
    exact msfar_any hu htz hfar
  have h6 : xs.length ≤ 6 := by omega
  have hm : ws.length ≤ 2000 := by omega
  by_cases hr : Rt xs
  · by_cases hbad : rightB n ws = false ∨ n ≠ (xs.length : Int)
    · exact msbad_any hu hv hw htz h6 hm hr hbad
    · have hn : n = (xs.length : Int) := Classical.byContradiction (fun h => hbad (.inr h))
      have hb : rightB n ws = true := by
        cases h : rightB n ws with
        | true => rfl
        | false => exact absurd (.inl h) hbad
      subst hn
      obtain ⟨m, h1, h2⟩ := (rightB_iff hw).1 hb
      have : m = xs.length := by omega
      subst this
      exact msok_any hu hv htz h6 hm hr h2
  · exact msno_any hu hv htz h6 hm hr
end Go.Proofs.YtdniokdgghpkbaaGreatDoor
namespace Go.Proofs.YtdniokdgghpkbaaGreatDoor
open Go.ChangeShapes Go.WideShapes Go.ChangeAt Go.RowKit Go.Deep StoreMath

theorem Tryz.own : ownKnob Tryz.prog.godebug = none := by kernel_rfl
theorem Tryz.laidOut : laidOutB Tryz.prog = true := by kernel_rfl
theorem Tryz.cells5 : Tryz.prog.cellsOf 5 = 1 := by kernel_rfl
theorem Tryz.cells50 : Tryz.prog.cellsOf 50 = 1 := by kernel_rfl
theorem Tryz.cells3 : Tryz.prog.cellsOf 3 = 1 := by kernel_rfl
theorem wf64 {x : Int} (h : (Lit.int .i64 x).wf = true) : -9223372036854775808 ≤ x ∧ x ≤ 9223372036854775807 := by
  have e : IntKind.i64.min = -9223372036854775808 := by decide
  simp [Lit.wf] at h
  omega
theorem wfu64 {n : Int} (h : (Lit.int .u64 n).wf = true) : 0 ≤ n ∧ n < 18446744073709551616 := by
  have h2 : IntKind.u64.min = 0 := rfl
  have h3 : IntKind.u64.max = 18446744073709551615 := rfl
  simp only [Lit.wf, Bool.and_eq_true, decide_eq_true_eq, h2, h3] at h
  omega
section
variable {H : Type} {enc : TypeId × Value → H}
theorem trodAll_below {W W' : World} (hb : Below W.heap.size W W') : ∀ {ts : List TypeId} {vs : List Value} {ds : List (DataW H)} {ps : List MemPlace},
    DataW.TrodAll enc Tryz.prog W 0 (fun _ => true) true ts vs ds ps → (∀ x ∈ ps, x.block < W.heap.size) → (∀ t ∈ ts, Tryz.prog.readableRec t = true ∧ t < Tryz.prog.types.size) →
    DataW.TrodAll enc Tryz.prog W' 0 (fun b => decide (b < W.heap.size)) true ts vs ds ps := by
  intro ts
  induction ts with
  | nil =>
    intro vs ds ps h _ _
    obtain ⟨rfl, rfl, rfl⟩ := trodAll_nil h
    exact trodAll_mk0
  | cons t ts ih =>
    intro vs ds ps h hlt hts
    obtain ⟨v, vs', d, ds', p, q, rfl, rfl, rfl, hd, hr⟩ := trodAll_cons h
    have h1 := hts t (by simp)
    exact trodAll_cons_mk (Below.trod Tryz.laidOut h1.1 h1.2 hd hb (fun x hx => hlt x (by simp [hx]))) (ih hr (fun x hx => hlt x (by simp [hx])) (fun t' ht' => hts t' (by simp [ht'])))

end
end Go.Proofs.YtdniokdgghpkbaaGreatDoor
