/- The nodes that a diagram made from below has: which they are, and how many; nothing of the program. -/
import Derived.Test.YteopfdbjiiiegaaDtP
import Derived.Test.YteopfdbjiiiegaaDtL
namespace StoreMath
open ArenaMath IndexMath MarkMath Go.Proofs.Yteopfdbjiiiegaa.Nd.NodeMath Go.Proofs.Yteopfdbjiiiegaa

/-- The nodes within a tree, each with its own level as its tag. -/
def subT : Tc → List Tc
  | .nul => []
  | .leaf _ => []
  | .node _ t lo hi => .node t t lo hi :: (subT lo ++ subT hi)
/-- A node's text, without a tag. -/
def bodyT : Tc → List UInt8
  | .nul => []
  | .leaf _ => []
  | .node _ t lo hi => [40] ++ Go.Lib.decDigits t ++ [32] ++ tx (toR lo) ++ [32] ++ tx (toR hi) ++ [41]
section
variable {n l m k : Nat} {x y z : Tc}
theorem tag_good {u : Nat} (h : u < 100) : Good (tagL u) := fun c hc => by
  unfold tagL at hc
  rcases List.mem_append.1 hc with h' | h'
  · exact dec_fine h c h'
  · rw [List.mem_singleton.1 h']; exact ⟨by decide, by decide, by decide⟩
theorem fine_toR (hn : n ≤ 16) : ∀ {x : Tc} {l : Nat}, Wt n x l → Fine (toR x)
  | .nul, _, _ => fun c hc => by rw [List.mem_singleton.1 hc]; exact ⟨by decide, by decide, by decide⟩
  | .leaf k, _, h => fun c hc => by
    have := h.2
    rcases List.mem_append.1 hc with h' | h'
    · exact tag_good (by omega) c h'
    · rw [List.mem_singleton.1 h']; exact ⟨by decide, by decide, by decide⟩
  | .node k t lo hi, _, h => by
    obtain ⟨h1, h2, h3, -, -, h6, h7⟩ := h
    exact ⟨tag_good (by omega), dec_fine (by omega), fine_toR hn h6, fine_toR hn h7⟩
theorem tag_inj {u v : Nat} (h : u < 100) (h' : v < 100) (e : tagL u = tagL v) : u = v := by
  unfold tagL at e
  exact dec_inj h h' (List.append_cancel_right e)
theorem toR_inj (hn : n ≤ 16) : ∀ {x y : Tc} {l m : Nat}, Wt n x l → Wt n y m → toR x = toR y → x = y
  | .nul, .nul, _, _, _, _, _ => rfl
  | .nul, .leaf k, _, _, _, h2, h => by
    have := h2.2
    injection h with h
    have e := congrArg List.length h
    have := tag_short (u := k) (by omega)
    rw [List.length_append, List.length_singleton, List.length_singleton] at e
    omega
  | .leaf k, .nul, _, _, h1, _, h => by
    have := h1.2
    injection h with h
    have e := congrArg List.length h
    have := tag_short (u := k) (by omega)
    rw [List.length_append, List.length_singleton, List.length_singleton] at e
    omega
  | .leaf k, .leaf k', _, _, h1, h2, h => by
    have := h1.2
    have := h2.2
    injection h with h
    rw [tag_inj (by omega) (by omega) (List.append_cancel_right h)]
  | .nul, .node k t lo hi, _, _, _, _, h => by cases h
  | .leaf _, .node k t lo hi, _, _, _, _, h => by cases h
  | .node k t lo hi, .nul, _, _, _, _, h => by cases h
  | .node k t lo hi, .leaf _, _, _, _, _, h => by cases h
  | .node k t lo hi, .node k' t' lo' hi', _, _, h1, h2, h => by
    injection h with e0 e1 e2 e3
    obtain ⟨p1, p2, p3, -, -, p6, p7⟩ := h1
    obtain ⟨q1, q2, q3, -, -, q6, q7⟩ := h2
    rw [tag_inj (by omega) (by omega) e0, dec_inj (by omega) (by omega) e1, toR_inj hn p6 q6 e2, toR_inj hn p7 q7 e3]
theorem sub_nodes : ∀ x : Tc, nodesT (toR x) = (subT x).map bodyT
  | .nul => rfl
  | .leaf _ => rfl
  | .node k t lo hi => by
    show ([40] ++ Go.Lib.decDigits t ++ [32] ++ tx (toR lo) ++ [32] ++ tx (toR hi) ++ [41]) :: (nodesT (toR lo) ++ nodesT (toR hi)) = _
    rw [sub_nodes lo, sub_nodes hi]
    show _ = bodyT (.node t t lo hi) :: ((subT lo ++ subT hi).map bodyT)
    rw [List.map_append]
    rfl
theorem sub_wt : ∀ {x : Tc} {l : Nat}, Wt n x l → ∀ y ∈ subT x, ∃ t lo hi, y = .node t t lo hi ∧ Wt n y t
  | .nul, _, _, y, hy => by cases hy
  | .leaf _, _, _, y, hy => by cases hy
  | .node k t lo hi, l, h, y, hy => by
    obtain ⟨-, h2, h3, h4, h5, h6, h7⟩ := h
    rcases List.mem_cons.1 hy with rfl | hy
    · exact ⟨t, lo, hi, rfl, Nat.le_refl _, Nat.le_refl _, h3, h4, h5, h6, h7⟩
    · rcases List.mem_append.1 hy with hy | hy
      · exact sub_wt h6 y hy
      · exact sub_wt h7 y hy
theorem sub_re : subT (reT k x) = subT x := by cases x <;> rfl
/-- One text, one node. -/
theorem body_inj (hn : n ≤ 16) {t t' : Nat} {lo hi lo' hi' : Tc} (hx : Wt n (.node t t lo hi) l) (hy : Wt n (.node t' t' lo' hi') m) (h : bodyT (.node t t lo hi) = bodyT (.node t' t' lo' hi')) : Tc.node t t lo hi = .node t' t' lo' hi' := by
  obtain ⟨-, -, p3, -, -, p6, p7⟩ := hx
  obtain ⟨-, -, q3, -, -, q6, q7⟩ := hy
  have e : tx (.node [] (Go.Lib.decDigits t) (toR lo) (toR hi)) ++ [] = tx (.node [] (Go.Lib.decDigits t') (toR lo') (toR hi')) ++ [] := by
    rw [List.append_nil, List.append_nil]; exact h
  have hg : ∀ {T : Nat} {X Y : Tc}, T < n → Wt n X (T + 1) → Wt n Y (T + 1) → Fine (.node [] (Go.Lib.decDigits T) (toR X) (toR Y)) := fun hT hX hY => ⟨(fun c hc => by cases hc), dec_fine (by omega), fine_toR hn hX, fine_toR hn hY⟩
  obtain ⟨e1, -⟩ := tx_inj _ _ (hg p3 p6 p7) (hg q3 q6 q7) [] [] (.inl rfl) (.inl rfl) e
  injection e1 with _ e1 e2 e3
  rw [dec_inj (by omega) (by omega) e1, toR_inj hn p6 q6 e2, toR_inj hn p7 q7 e3]
/-- The texts of a tree's nodes, each once. -/
def wantT (x : Tc) : List (List UInt8) := dd [] (pieces (tx (toR x)))
theorem want_sub (hn : n ≤ 16) (hx : Wt n x l) (s : List UInt8) : s ∈ wantT x ↔ ∃ y ∈ subT x, bodyT y = s := by
  unfold wantT
  have := pieces_tx (toR x) (fine_toR hn hx) []
  rw [List.append_nil] at this
  rw [this, dd_mem, show pieces [] = [] from rfl, List.append_nil, sub_nodes]
  simp
end
noncomputable instance : DecidableEq (List UInt8) := inferInstance
section
variable {n l : Nat} {x : Tc} {K : List Tc}
theorem body_map (hn : n ≤ 16) (hx : Wt n x l) (hK : K.Nodup) (hs : ∀ y ∈ K, y ∈ subT x) : (K.map bodyT).Nodup :=
  nodup_map K hK (fun y hy z hz e => by
    obtain ⟨t, lo, hi, rfl, w1⟩ := sub_wt hx y (hs y hy)
    obtain ⟨t', lo', hi', rfl, w2⟩ := sub_wt hx z (hs z hz)
    exact body_inj hn w1 w2 e)
/-- All of them: as many as the text has. -/
theorem want_all (hn : n ≤ 16) (hx : Wt n x l) (hK : K.Nodup) (hs : ∀ y ∈ K, y ∈ subT x) (ha : ∀ y ∈ subT x, y ∈ K) : (wantT x).length = K.length := by
  have a1 := nodup_le (K.map bodyT) (wantT x) (body_map hn hx hK hs) (fun s h => by
    obtain ⟨y, hy, e⟩ := List.mem_map.1 h
    exact (want_sub hn hx s).2 ⟨y, hs y hy, e⟩)
  have a2 := nodup_le (wantT x) (K.map bodyT) (dd_nodup _ _ List.nodup_nil) (fun s h => by
    obtain ⟨y, hy, e⟩ := (want_sub hn hx s).1 h
    exact List.mem_map.2 ⟨y, ha y hy, e⟩)
  rw [List.length_map] at a1 a2
  omega
/-- Not all of them: fewer. -/
theorem want_more (hn : n ≤ 16) (hx : Wt n x l) (hK : K.Nodup) (hs : ∀ y ∈ K, y ∈ subT x) (ha : ∃ y ∈ subT x, y ∉ K) : K.length < (wantT x).length := by
  obtain ⟨z, hz, hzk⟩ := ha
  have hK' : (z :: K).Nodup := List.nodup_cons.2 ⟨hzk, hK⟩
  have hs' : ∀ y ∈ z :: K, y ∈ subT x := fun y hy => by
    rcases List.mem_cons.1 hy with rfl | hy
    · exact hz
    · exact hs y hy
  have a1 := nodup_le ((z :: K).map bodyT) (wantT x) (body_map hn hx hK' hs') (fun s h => by
    obtain ⟨y, hy, e⟩ := List.mem_map.1 h
    exact (want_sub hn hx s).2 ⟨y, hs' y hy, e⟩)
  rw [List.length_map, List.length_cons] at a1
  omega
end
/-- A store's nodes are these. -/
def Keyed (a : Ab) (K : List Tc) : Prop := K.Nodup ∧ K.length = cnt a ∧ ∀ x, x ∈ K ↔ ∃ u r, nodeOf a.sl u = some r ∧ r.form = 5 ∧ Un a (r.top, u) x
theorem keyed_new (n room : Nat) : Keyed ⟨n, room, [], []⟩ [] := by
  refine ⟨List.nodup_nil, rfl, fun x => ⟨(fun h => by cases h), ?_⟩⟩
  rintro ⟨u, r, h, _⟩
  have := node_lt h
  simp at this
  omega
section
variable {a b : Ab} {e lo hi : Nat × Nat} {l n u : Nat} {r : Rec} {K : List Tc} {T : Tc}
theorem keyed_more (hx : Ext a b) (hK : Keyed a K) {k : Nat} {X : Tc} (h0 : nodeOf a.sl u = none) (hr : r.form = 5) (hj : ∀ j, nodeOf b.sl j = if j = u then some r else nodeOf a.sl j) (hu : Un b (k, u) X) (hk : k = r.top) (hno : ∀ e, ¬ Un a e X) (hall : ∀ v q, nodeOf a.sl v = some q → q.form = 5 → ∃ x, Un a (q.top, v) x) (hc : cnt b = cnt a + 1) : Keyed b (X :: K) := by
  subst hk
  have hid : nodeOf b.sl u = some r := by rw [hj, if_pos rfl]
  refine ⟨List.nodup_cons.2 ⟨fun h => ?_, hK.1⟩, by rw [List.length_cons, hK.2.1, hc], fun x => ?_⟩
  · obtain ⟨v, q, _, _, h3⟩ := (hK.2.2 _).1 h
    exact hno _ h3
  · rw [List.mem_cons]
    constructor
    · rintro (rfl | h)
      · exact ⟨u, r, hid, hr, hu⟩
      · obtain ⟨v, q, h1, h2, h3⟩ := (hK.2.2 _).1 h
        exact ⟨v, q, hx.more v q h1, h2, h3.ext hx⟩
    · rintro ⟨v, q, h1, h2, h3⟩
      by_cases e : v = u
      · subst e
        rw [hid] at h1
        injection h1 with h1
        subst h1
        exact .inl (h3.det hu)
      · have h1' := h1
        rw [hj v, if_neg e] at h1'
        obtain ⟨x', hx'⟩ := hall v q h1' h2
        rw [h3.det (hx'.ext hx)]
        exact .inr ((hK.2.2 x').2 ⟨v, q, h1', h2, hx'⟩)
/-- Each node has a tree. -/
theorem node_tree (ha : Hale a) (h : nodeOf a.sl u = some r) (hf : r.form = 5) : ∃ x, Un a (r.top, u) x := by
  obtain ⟨p1, p2, p3, p4, _⟩ := fits_parts (ha.sound u r h) hf
  obtain ⟨x, hx⟩ := un_of ha (a.n + 1) (r.top + 1) (r.lt, r.la) (by omega) p3
  obtain ⟨y, hy⟩ := un_of ha (a.n + 1) (r.top + 1) (r.ht, r.ha) (by omega) p4
  exact ⟨_, .node h hf hx hy⟩
end
theorem sub_mk {l : Nat} {x y z : Tc} : z ∈ subT (mkT l x y) → z = .node l l x y ∨ z ∈ subT x ∨ z ∈ subT y := by
  rcases mkT_cases l x y with ⟨_, e⟩ | ⟨_, _, _, e⟩ | ⟨_, _, e⟩
  · rw [e]; exact fun h => .inr (.inl h)
  · rw [e, sub_re]; exact fun h => .inr (.inl h)
  · rw [e]
    intro h
    rcases List.mem_cons.1 h with rfl | h
    · exact .inl rfl
    · rcases List.mem_append.1 h with h | h
      · exact .inr (.inl h)
      · exact .inr (.inr h)
theorem mk_sub {l : Nat} {x y z : Tc} (h : z ∈ subT x ∨ z ∈ subT y) : z ∈ subT (mkT l x y) := by
  rcases mkT_cases l x y with ⟨he, e⟩ | ⟨_, hy, _, e⟩ | ⟨_, _, e⟩
  · rw [e]
    rcases h with h | h
    · exact h
    · rw [he]; exact h
  · rw [e, sub_re]
    rcases h with h | h
    · exact h
    · rw [hy] at h; cases h
  · rw [e]
    exact List.mem_cons_of_mem _ (List.mem_append.2 h)
/-- What Made leaves of the nodes. -/
theorem md_keys : ∀ (k l : Nat) (a : Ab) (t : List Bool) (K : List Tc), Hale a → l + k = a.n → t.length = 2 ^ k → Keyed a K →
    ∃ K', Keyed (mdB a k l t).1 K' ∧ (∀ x ∈ K, x ∈ K') ∧ (∀ x ∈ K', x ∈ K ∨ x ∈ subT (mdT k l t)) ∧ ((mdB a k l t).2.2 = true → ∀ x ∈ subT (mdT k l t), x ∈ K') ∧ ((mdB a k l t).2.2 = false → ∃ x ∈ subT (mdT k l t), x ∉ K') := by
  intro k
  induction k with
  | zero =>
    intro l a t K ha hl ht hK
    have hsub : subT (mdT 0 l t) = [] := by
      show subT (match t.headD false with | true => Tc.leaf l | false => Tc.nul) = []
      cases t.headD false <;> rfl
    exact ⟨K, hK, fun x h => h, fun x h => .inl h, (fun _ x h => by rw [hsub] at h; cases h), fun h => by cases h⟩
  | succ k ih =>
    intro l a t K ha hl ht hK
    have hp : 2 ^ (k + 1) = 2 ^ k + 2 ^ k := by omega
    obtain ⟨ht1, ht2⟩ := half_len ht
    have i1 := md_spec k (l + 1) a (t.take (2 ^ k)) ha (by omega) ht1
    have j1 := ih (l + 1) a (t.take (2 ^ k)) K ha (by omega) ht1 hK
    generalize hq1 : mdB a k (l + 1) (t.take (2 ^ k)) = q1 at i1 j1
    obtain ⟨b, lo, p⟩ := q1
    simp only at i1 j1
    obtain ⟨gb, xb, rb, cb, fb, ub, ob, zb⟩ := i1
    obtain ⟨K1, hK1, s1, o1, y1, n1⟩ := j1
    have i2 := md_spec k (l + 1) b (t.drop (2 ^ k)) gb (by rw [xb.n]; omega) ht2
    have j2 := ih (l + 1) b (t.drop (2 ^ k)) K1 gb (by rw [xb.n]; omega) ht2 hK1
    generalize hq2 : mdB b k (l + 1) (t.drop (2 ^ k)) = q2 at i2 j2
    obtain ⟨c, hi, q⟩ := q2
    simp only at i2 j2
    obtain ⟨gc, xc, rc, cc, fc, uc, oc, zc⟩ := i2
    obtain ⟨K2, hK2, s2, o2, y2, n2⟩ := j2
    have hcn : c.n = a.n := by rw [xc.n, xb.n]
    have hT : mdT (k + 1) l t = mkT l (mdT k (l + 1) (t.take (2 ^ k))) (mdT k (l + 1) (t.drop (2 ^ k))) := rfl
    have hto : ∀ x ∈ K2, x ∈ K ∨ x ∈ subT (mdT (k + 1) l t) := fun x hx => by
      rw [hT]
      rcases o2 x hx with h | h
      · rcases o1 x h with h | h
        · exact .inl h
        · exact .inr (mk_sub (.inl h))
      · exact .inr (mk_sub (.inr h))
    rw [mdB_succ a k l t hq1 hq2]
    by_cases hpq : p = true ∧ q = true
    · rw [if_pos hpq]
      have u1 := (rb hpq.1).ext xc
      have u2 := rc hpq.2
      have w1 : Wt c.n (mdT k (l + 1) (t.take (2 ^ k))) (l + 1) := md_wt k (l + 1) _ (by omega)
      have w2 : Wt c.n (mdT k (l + 1) (t.drop (2 ^ k))) (l + 1) := md_wt k (l + 1) _ (by omega)
      have hm := makes gc (show l < c.n by omega) u1 w1 u2 w2
      have hsub : ∀ x, x ∈ subT (mdT k (l + 1) (t.take (2 ^ k))) ∨ x ∈ subT (mdT k (l + 1) (t.drop (2 ^ k))) → x ∈ K2 := fun x hx => by
        rcases hx with h | h
        · exact s2 x (y1 hpq.1 x h)
        · exact y2 hpq.2 x h
      rw [← hT] at hm
      generalize mkB c l lo.1 lo.2 hi.1 hi.2 = z at hm ⊢
      obtain ⟨d, e, er⟩ := z
      simp only at hm ⊢
      have hsd : ∀ (d : Ab) (e : Nat × Nat) (X : Tc), Un d e X → X = mdT (k + 1) l t → ∀ Kd : List Tc, (∀ x ∈ K2, x ∈ Kd) → (∀ t' lo' hi', X = .node t' t' lo' hi' → X ∈ Kd) → ∀ x ∈ subT (mdT (k + 1) l t), x ∈ Kd := fun d e X hX hXT Kd hKd hnode x hx => by
        rw [hT] at hx hXT
        rcases mkT_cases l (mdT k (l + 1) (t.take (2 ^ k))) (mdT k (l + 1) (t.drop (2 ^ k))) with ⟨_, e1⟩ | ⟨_, _, _, e1⟩ | ⟨_, _, e1⟩
        · rw [e1] at hx
          exact hKd x (hsub x (.inl hx))
        · rw [e1, sub_re] at hx
          exact hKd x (hsub x (.inl hx))
        · rw [e1] at hx hXT
          rcases List.mem_cons.1 hx with rfl | hx
          · rw [← hXT]; exact hnode _ _ _ hXT
          · exact hKd x (hsub x (List.mem_append.1 hx))
      cases hm with
      | yes rd =>
        refine ⟨K2, hK2, fun x h => s2 x (s1 x h), hto, fun _ => hsd c e _ rd rfl K2 (fun x h => h) (fun t' lo' hi' he => ?_), fun h => by cases h⟩
        rw [he] at rd ⊢
        obtain ⟨r, g1, g2, g3, g4, _, _⟩ := rd.open
        refine (hK2.2.2 _).2 ⟨e.2, r, g2, g3, ?_⟩
        rw [g4, show (t', e.2) = e from Prod.ext g1.symm rfl]; exact rd
      | @new _ _ r gd xd rd hno h0 hj hrf het hfr hcd =>
        have hKd : Keyed d (mdT (k + 1) l t :: K2) := keyed_more (r := r) (u := e.2) (k := e.1) xd hK2 h0 hrf hj rd het hno (fun v q hv hq => node_tree gc hv hq) hcd
        refine ⟨_, hKd, fun x h => List.mem_cons_of_mem _ (s2 x (s1 x h)), fun x hx => ?_, fun _ => hsd d e _ rd rfl _ (fun x h => List.mem_cons_of_mem _ h) (fun _ _ _ _ => List.mem_cons_self), fun h => by cases h⟩
        rcases List.mem_cons.1 hx with rfl | hx
        · refine .inr ?_
          obtain ⟨r', g1, _⟩ : ∃ r', nodeOf d.sl e.2 = some r' ∧ True := ⟨r, by rw [hj, if_pos rfl], trivial⟩
          rw [hT]
          rcases mkT_cases l (mdT k (l + 1) (t.take (2 ^ k))) (mdT k (l + 1) (t.drop (2 ^ k))) with ⟨_, e1⟩ | ⟨_, e0, e2, e1⟩ | ⟨_, _, e1⟩
          · exact absurd u1 (by rw [hT, e1] at hno; exact hno lo)
          · exfalso
            rw [hT, e1] at hno
            refine hno (l, lo.2) (u1.re (fun h => ?_))
            rw [h] at e2; exact e2
          · rw [e1]; exact List.mem_cons_self
        · exact hto x hx
      | @full t' lo' hi' h0 hnode hno =>
        refine ⟨K2, hK2, fun x h => s2 x (s1 x h), hto, (fun h => by cases h), fun _ => ⟨mdT (k + 1) l t, by rw [hnode]; exact List.mem_cons_self, fun hmem => ?_⟩⟩
        obtain ⟨u, r, _, _, w3⟩ := (hK2.2.2 _).1 hmem
        exact hno _ w3
    · rw [if_neg hpq]
      refine ⟨K2, hK2, fun x h => s2 x (s1 x h), hto, (fun h => by cases h), fun _ => ?_⟩
      rw [hT]
      cases hp' : p with
      | false =>
        obtain ⟨x, h1, h2⟩ := n1 hp'
        refine ⟨x, mk_sub (.inl h1), fun hx => ?_⟩
        have := nodup_le (x :: K1) K2 (List.nodup_cons.2 ⟨h2, hK1.1⟩) (fun y hy => by
          rcases List.mem_cons.1 hy with rfl | hy
          · exact hx
          · exact s2 y hy)
        rw [List.length_cons, hK1.2.1, hK2.2.1] at this
        have := zb hp'
        omega
      | true =>
        cases hq' : q with
        | false =>
          obtain ⟨x, h1, h2⟩ := n2 hq'
          exact ⟨x, mk_sub (.inr h1), h2⟩
        | true => exact absurd ⟨hp', hq'⟩ hpq
/-- How many nodes there are, and how many a term has. -/
theorem md_want {n room : Nat} {t : List Bool} (hn : n ≤ 16) (hr : room ≤ 1048576) (ht : t.length = 2 ^ n) :
    ((mdB ⟨n, room, [], []⟩ n 0 t).2.2 = true → cnt (mdB ⟨n, room, [], []⟩ n 0 t).1 = (wantT (mdT n 0 t)).length ∧ (wantT (mdT n 0 t)).length ≤ room) ∧
    ((mdB ⟨n, room, [], []⟩ n 0 t).2.2 = false → cnt (mdB ⟨n, room, [], []⟩ n 0 t).1 = room ∧ room < (wantT (mdT n 0 t)).length) := by
  have hg := good_new hn hr
  obtain ⟨-, -, -, c1, -, -, -, c2⟩ := md_spec n 0 ⟨n, room, [], []⟩ t hg (by simp) ht
  obtain ⟨K, k1, -, k2, k3, k4⟩ := md_keys n 0 ⟨n, room, [], []⟩ t [] hg (by simp) ht (keyed_new n room)
  have hw : Wt n (mdT n 0 t) 0 := md_wt n 0 t (by omega)
  have h0 : cnt ⟨n, room, [], []⟩ = 0 := rfl
  have h1 : freeP ⟨n, room, [], []⟩ = room := by unfold freeP; simp
  have k2' : ∀ x ∈ K, x ∈ subT (mdT n 0 t) := fun x hx => by
    rcases k2 x hx with h | h
    · cases h
    · exact h
  rw [h0, h1] at c1
  refine ⟨fun h => ?_, fun h => ?_⟩
  · have := want_all hn hw k1.1 k2' (k3 h)
    rw [this, k1.2.1]
    exact ⟨rfl, by omega⟩
  · have := want_more hn hw k1.1 k2' (k4 h)
    rw [k1.2.1] at this
    have := c2 h
    exact ⟨by omega, by omega⟩
end StoreMath
