/- Which nodes a diagram made from below has, and how many; nothing of the program. -/
import Derived.Test.YtbndmpklbdllkaaDtL
import Derived.Test.YtbndmpklbdllkaaDtP
namespace StoreMath
open ArenaMath IndexMath Go.Proofs.Ytbndmpklbdllkaa.Nd.NodeMath Go.Proofs.Ytbndmpklbdllkaa

/-- The nodes of a store, each by its level and its table, are these. -/
def Keyed (a : Ab) (K : List (Nat × List Bool)) : Prop := K.Nodup ∧ K.length = cnt a ∧ ∀ x : Nat × List Bool, x ∈ K ↔ ∃ u r, nodeOf a.sl u = some r ∧ r.form = 2 ∧ r.top = x.1 ∧ tabB a (a.n - x.1) x.1 (0, u) = x.2
theorem keyed_new (n room : Nat) : Keyed ⟨n, room, [], []⟩ [] := by
  refine ⟨List.nodup_nil, rfl, fun x => ⟨(fun h => by cases h), ?_⟩⟩
  rintro ⟨u, r, h, _⟩
  have := node_lt h
  simp at this
  omega
section
variable {a b : Ab} {e lo hi : Nat × Nat} {l n u : Nat} {r : Rec}
theorem rt_self (ha : Hale a) (h : nodeOf a.sl u = some r) (hf : r.form = 2) : rtB a (0, u) r.top = true ∧ r.top < a.n ∧ r.bot = r.top := by
  have hfit := ha.sound u r h
  unfold Ab.fits at hfit
  simp only [Bool.and_eq_true, decide_eq_true_eq] at hfit
  obtain ⟨⟨_, _, h3, h4, h5, h6, h7, _⟩, _⟩ := hfit
  have hbt : r.bot = r.top := by
    by_cases hlt : r.top < r.bot
    · rcases h7 hlt with h | h <;> omega
    · omega
  exact ⟨leads_iff.2 ⟨⟨by decide, by decide, by omega, by omega, by omega, by omega, fun _ => rfl, fun h => by cases h⟩, .inr ⟨r, h, hf, Int.le_refl _, Nat.zero_le _⟩⟩, by omega, hbt⟩
/-- What Make leaves of the nodes. -/
theorem mk_step (ha : Hale a) (hl : l < a.n) (h1 : rtB a lo (l + 1) = true) (h2 : rtB a hi (l + 1) = true) {er : Nat} (hq : mkB a l lo.1 lo.2 hi.1 hi.2 = (b, e, er)) :
    ((∀ j, nodeOf b.sl j = nodeOf a.sl j) ∧ cnt b = cnt a) ∨ (hi ≠ (0, 0) ∧ e.1 = 0 ∧ nodeOf a.sl e.2 = none ∧ (∀ j, nodeOf b.sl j = if j = e.2 then some ⟨2, l, l, lo.1, lo.2, hi.1, hi.2⟩ else nodeOf a.sl j) ∧ cnt b = cnt a + 1) := by
  have hv : ¬ ((l : Int) < 0 ∨ (a.n : Int) ≤ (l : Int)) := by omega
  have k1 : a.leads 2 lo.1 lo.2 ((l : Int) + 1) = true := by have := h1; unfold rtB at this; rw [show ((l + 1 : Nat) : Int) = (l : Int) + 1 by omega] at this; exact this
  have k2 : a.leads 2 hi.1 hi.2 ((l : Int) + 1) = true := by have := h2; unfold rtB at this; rw [show ((l + 1 : Nat) : Int) = (l : Int) + 1 by omega] at this; exact this
  have h16 := ha.ok.n
  obtain ⟨s1, s2⟩ := rt_small ha h1
  obtain ⟨s3, s4⟩ := rt_small ha h2
  by_cases he : hi.2 = 0
  · rw [mkB_same hv k1 k2 he] at hq
    injection hq with hq _
    subst hq
    exact .inl ⟨fun _ => rfl, rfl⟩
  · rw [mkB_find hv k1 k2 he] at hq
    have hne : hi ≠ (0, 0) := fun h => he (by rw [h])
    have hok : (⟨2, (l : Int).toNat, (l : Int).toNat, lo.1, lo.2, hi.1, hi.2⟩ : Rec).Ok := ⟨by show 2 < 256; decide, by show (l : Int).toNat < 256; omega, by show (l : Int).toNat < 256; omega, s1, s2, s3, s4⟩
    have hf := finds ha hok
    rw [show (l : Int).toNat = l by omega] at *
    generalize a.find ⟨2, l, l, lo.1, lo.2, hi.1, hi.2⟩ = q at *
    obtain ⟨b', id, er'⟩ := q
    simp only at hf hq
    injection hq with hq1 hq
    injection hq with hq2 hq3
    subst hq1 hq2
    cases hf with
    | there _ => exact .inl ⟨fun _ => rfl, rfl⟩
    | wrong _ => exact .inl ⟨fun _ => rfl, rfl⟩
    | full _ _ _ => exact .inl ⟨fun _ => rfl, rfl⟩
    | new hno _ hb hx h0 hj hfr hc => exact .inr ⟨hne, rfl, h0, hj, hc⟩
/-- A node's table, when more nodes are there. -/
theorem key_ext (ha : Hale a) (hx : Ext a b) (h : nodeOf a.sl u = some r) (hf : r.form = 2) : tabB b (b.n - r.top) r.top (0, u) = tabB a (a.n - r.top) r.top (0, u) := by
  obtain ⟨h1, h2, _⟩ := rt_self ha h hf
  rw [hx.n]
  exact tab_ext ha hx _ _ _ (by omega) h1
theorem keyed_same (ha : Hale a) (hx : Ext a b) {K : List (Nat × List Bool)} (hK : Keyed a K) (hj : ∀ j, nodeOf b.sl j = nodeOf a.sl j) (hc : cnt b = cnt a) : Keyed b K := by
  refine ⟨hK.1, hK.2.1.trans hc.symm, fun x => (hK.2.2 x).trans ?_⟩
  constructor
  · rintro ⟨u, r, h1, h2, h3, h4⟩
    refine ⟨u, r, (hj u).trans h1, h2, h3, ?_⟩
    rw [← h3] at h4 ⊢
    rw [key_ext ha hx h1 h2]; exact h4
  · rintro ⟨u, r, h1, h2, h3, h4⟩
    rw [hj u] at h1
    refine ⟨u, r, h1, h2, h3, ?_⟩
    rw [← h3] at h4 ⊢
    rw [← key_ext ha hx h1 h2]; exact h4
theorem keyed_more (ha : Hale a) (hb : Hale b) (hx : Ext a b) {K : List (Nat × List Bool)} (hK : Keyed a K) {id : Nat} (h0 : nodeOf a.sl id = none) (hr : r.form = 2) (hj : ∀ j, nodeOf b.sl j = if j = id then some r else nodeOf a.sl j) (hc : cnt b = cnt a + 1) : Keyed b ((r.top, tabB b (b.n - r.top) r.top (0, id)) :: K) := by
  have hid : nodeOf b.sl id = some r := by rw [hj, if_pos rfl]
  refine ⟨List.nodup_cons.2 ⟨fun h => ?_, hK.1⟩, by rw [List.length_cons, hK.2.1, hc], fun x => ?_⟩
  · obtain ⟨u, q, h1, h2, h3, h4⟩ := (hK.2.2 _).1 h
    simp only at h3 h4
    have h1' := hx.more u q h1
    obtain ⟨p1, p2, _⟩ := rt_self hb h1' h2
    obtain ⟨q1, q2, _⟩ := rt_self hb hid hr
    rw [← h3, ← key_ext ha hx h1 h2] at h4
    rw [← h3] at q1
    have := canon hb (b.n - q.top) q.top (0, u) (0, id) (by omega) p1 q1 h4
    injection this with _ e
    rw [e, h0] at h1
    cases h1
  · rw [List.mem_cons]
    constructor
    · rintro (rfl | h)
      · exact ⟨id, r, hid, hr, rfl, rfl⟩
      · obtain ⟨u, q, h1, h2, h3, h4⟩ := (hK.2.2 _).1 h
        refine ⟨u, q, hx.more u q h1, h2, h3, ?_⟩
        rw [← h3] at h4 ⊢
        rw [key_ext ha hx h1 h2]; exact h4
    · rintro ⟨u, q, h1, h2, h3, h4⟩
      rw [hj u] at h1
      by_cases e : u = id
      · rw [if_pos e] at h1
        injection h1 with h1
        subst h1 e
        refine .inl (Prod.ext h3.symm ?_)
        rw [← h4, h3]
      · rw [if_neg e] at h1
        refine .inr ((hK.2.2 x).2 ⟨u, q, h1, h2, h3, ?_⟩)
        rw [← h3] at h4 ⊢
        rw [← key_ext ha hx h1 h2]; exact h4
end
theorem key_sub {k l : Nat} {t : List Bool} {x : Nat × List Bool} (h : x ∈ keysB k (l + 1) (t.take (2 ^ k)) ∨ x ∈ keysB k (l + 1) (t.drop (2 ^ k))) : x ∈ keysB (k + 1) l t := by
  unfold keysB
  split
  · rename_i he
    rcases h with h | h
    · exact h
    · rw [keys_nul _ _ _ he] at h; cases h
  · exact List.mem_cons_of_mem _ (List.mem_append.2 h)
/-- What Made leaves of the nodes. -/
theorem md_keys : ∀ (k l : Nat) (a : Ab) (t : List Bool) (K : List (Nat × List Bool)), Hale a → l + k = a.n → t.length = 2 ^ k → Keyed a K →
    ∃ K', Keyed (mdB a k l t).1 K' ∧ (∀ x ∈ K, x ∈ K') ∧ (∀ x ∈ K', x ∈ K ∨ x ∈ keysB k l t) ∧ ((mdB a k l t).2.2 = true → ∀ x ∈ keysB k l t, x ∈ K') ∧ ((mdB a k l t).2.2 = false → ∃ x ∈ keysB k l t, x ∉ K') := by
  intro k
  induction k with
  | zero =>
    intro l a t K ha hl ht hK
    exact ⟨K, hK, fun x h => h, fun x h => .inl h, (fun _ x h => by cases h), fun h => by cases h⟩
  | succ k ih =>
    intro l a t K ha hl ht hK
    have hp : 2 ^ (k + 1) = 2 ^ k + 2 ^ k := by omega
    have ht1 : (t.take (2 ^ k)).length = 2 ^ k := by rw [List.length_take]; omega
    have ht2 : (t.drop (2 ^ k)).length = 2 ^ k := by rw [List.length_drop]; omega
    have i1 := md_spec k (l + 1) a (t.take (2 ^ k)) ha (by omega) ht1
    have j1 := ih (l + 1) a (t.take (2 ^ k)) K ha (by omega) ht1 hK
    generalize hq1 : mdB a k (l + 1) (t.take (2 ^ k)) = q1 at i1 j1
    obtain ⟨b, lo, p⟩ := q1
    simp only at i1 j1
    obtain ⟨gb, xb, rb, cb, fb, ub, ob, nb⟩ := i1
    obtain ⟨K1, hK1, s1, o1, y1, n1⟩ := j1
    have i2 := md_spec k (l + 1) b (t.drop (2 ^ k)) gb (by rw [xb.n]; omega) ht2
    have j2 := ih (l + 1) b (t.drop (2 ^ k)) K1 gb (by rw [xb.n]; omega) ht2 hK1
    generalize hq2 : mdB b k (l + 1) (t.drop (2 ^ k)) = q2 at i2 j2
    obtain ⟨c, hi, q⟩ := q2
    simp only at i2 j2
    obtain ⟨gc, xc, rc, cc, fc, uc, oc, nc⟩ := i2
    obtain ⟨K2, hK2, s2, o2, y2, n2⟩ := j2
    have hcn : c.n = a.n := by rw [xc.n, xb.n]
    have hto : ∀ x ∈ K2, x ∈ K ∨ x ∈ keysB (k + 1) l t := fun x hx => by
      rcases o2 x hx with h | h
      · rcases o1 x h with h | h
        · exact .inl h
        · exact .inr (key_sub (.inl h))
      · exact .inr (key_sub (.inr h))
    rw [mdB_succ a k l t hq1 hq2]
    by_cases hpq : p = true ∧ q = true
    · rw [if_pos hpq]
      obtain ⟨r1, tb1⟩ := rb hpq.1
      obtain ⟨r2, tb2⟩ := rc hpq.2
      have r1' := rt_ext xc r1
      have tb1' : tabB c k (l + 1) lo = t.take (2 ^ k) := by rw [tab_ext gb xc k (l + 1) lo (by rw [xb.n]; omega) r1, tb1]
      have hm := makes gc (show l < c.n by omega) r1' r2
      generalize hz : mkB c l lo.1 lo.2 hi.1 hi.2 = z at *
      obtain ⟨d, e, er⟩ := z
      simp only at hm ⊢
      have hstep := mk_step gc (show l < c.n by omega) r1' r2 hz
      by_cases hlo : hi = (0, 0)
      · have htd : Nul (t.drop (2 ^ k)) := by rw [← tb2]; exact (nul_iff (k := k) (l := l + 1) gc (by omega) r2).2 hlo
        have hkeys : keysB (k + 1) l t = keysB k (l + 1) (t.take (2 ^ k)) := if_pos htd
        rcases hstep with ⟨g1, g2⟩ | ⟨g1, _⟩
        · cases hm with
          | yes gd xd rd hvw hfr _ _ hcn =>
            refine ⟨K2, keyed_same gc xd hK2 g1 g2, fun x h => s2 x (s1 x h), hto, fun _ x hx => ?_, fun h => by cases h⟩
            rw [hkeys] at hx
            exact s2 x (y1 hpq.1 x hx)
          | full _ hne _ => exact absurd hlo hne
        · exact absurd hlo g1
      · have htd : ¬ Nul (t.drop (2 ^ k)) := fun h => hlo ((nul_iff (k := k) (l := l + 1) gc (by omega) r2).1 (by rw [tb2]; exact h))
        have hkeys : keysB (k + 1) l t = (l, t) :: (keysB k (l + 1) (t.take (2 ^ k)) ++ keysB k (l + 1) (t.drop (2 ^ k))) := if_neg htd
        have hsub : ∀ x ∈ keysB k (l + 1) (t.take (2 ^ k)) ++ keysB k (l + 1) (t.drop (2 ^ k)), x ∈ K2 := fun x hx => by
          rcases List.mem_append.1 hx with h | h
          · exact s2 x (y1 hpq.1 x h)
          · exact y2 hpq.2 x h
        cases hm with
        | yes gd xd rd hvw hfr _ _ _ =>
          have hdn : d.n = a.n := by rw [xd.n, hcn]
          have htab : tabB d (d.n - l) l e = t := by
            rw [show d.n - l = k + 1 by omega]
            unfold tabB
            rw [hvw]
            simp only
            rw [tab_ext gc xd k (l + 1) lo (by omega) r1', tb1', tab_ext gc xd k (l + 1) hi (by omega) r2, tb2, List.take_append_drop]
          have hnode : ∃ r, nodeOf d.sl e.2 = some r ∧ r.form = 2 ∧ r.top = l ∧ e.1 = 0 := by
            have hv : ¬ ((l : Int) < 0 ∨ (d.n : Int) ≤ (l : Int)) := by omega
            obtain ⟨hpl, hh⟩ := leads_iff.1 rd
            have he0 := hpl.2.2.2.2.2.2.1 (.inl (by decide))
            cases hn : d.node e.2 with
            | none =>
              rw [vwB_none hv rd hn] at hvw
              injection hvw with e1 e2
              injection e2 with e2 _
              exact absurd e2.symm hlo
            | some r =>
              by_cases htop : (r.top : Int) = (l : Int)
              · rcases hh with h | ⟨r', h, h3, _⟩
                · have := node_low (sl := d.sl) h; unfold Ab.node at hn; rw [this] at hn; cases hn
                · rw [hn] at h; injection h with h; subst h
                  exact ⟨r, hn, h3, by omega, he0⟩
              · rw [vwB_off hv rd hn htop] at hvw
                injection hvw with e1 e2
                injection e2 with e2 _
                exact absurd e2.symm hlo
          obtain ⟨r, w1, w2, w3, w4⟩ := hnode
          have hee : e = (0, e.2) := Prod.ext w4 rfl
          rw [hee] at htab
          rcases hstep with ⟨g1, g2⟩ | ⟨_, _, g3, g4, g5⟩
          · have hKd := keyed_same gc xd hK2 g1 g2
            refine ⟨K2, hKd, fun x h => s2 x (s1 x h), hto, fun _ x hx => ?_, fun h => by cases h⟩
            rw [hkeys] at hx
            rcases List.mem_cons.1 hx with rfl | hx
            · exact (hKd.2.2 _).2 ⟨e.2, r, w1, w2, w3, htab⟩
            · exact hsub x hx
          · have hKd := keyed_more gc gd xd hK2 g3 (r := ⟨2, l, l, lo.1, lo.2, hi.1, hi.2⟩) rfl g4 g5
            simp only at hKd
            rw [htab] at hKd
            refine ⟨_, hKd, fun x h => List.mem_cons_of_mem _ (s2 x (s1 x h)), fun x hx => ?_, fun _ x hx => ?_, fun h => by cases h⟩
            · rcases List.mem_cons.1 hx with rfl | hx
              · exact .inr (by rw [hkeys]; exact List.mem_cons_self)
              · exact hto x hx
            · rw [hkeys] at hx
              rcases List.mem_cons.1 hx with rfl | hx
              · exact List.mem_cons_self
              · exact List.mem_cons_of_mem _ (hsub x hx)
        | full h0 hne hno =>
          refine ⟨K2, hK2, fun x h => s2 x (s1 x h), hto, (fun h => by cases h), fun _ => ⟨(l, t), by rw [hkeys]; exact List.mem_cons_self, fun hmem => ?_⟩⟩
          obtain ⟨u, r, w1, w2, w3, w4⟩ := (hK2.2.2 _).1 hmem
          simp only at w3 w4
          obtain ⟨v1, v2, v3⟩ := rt_self gc w1 w2
          rw [w3] at v1
          have hv : ¬ ((l : Int) < 0 ∨ (c.n : Int) ≤ (l : Int)) := by omega
          have hvw := vwB_at hv v1 w1 (show (r.top : Int) = (l : Int) by omega)
          obtain ⟨-, u1, u2⟩ := vw_right gc (show l < c.n by omega) v1
          rw [hvw] at u1 u2
          rw [show c.n - l = k + 1 by omega] at w4
          unfold tabB at w4
          rw [hvw, ← List.take_append_drop (2 ^ k) t, ← tb1', ← tb2] at w4
          simp only at w4 u1 u2
          obtain ⟨z1, z2⟩ := append_half (by rw [tab_len, tab_len]) w4
          have e1 := canon gc k (l + 1) _ lo (by omega) u1 r1' z1
          have e2 := canon gc k (l + 1) _ hi (by omega) u2 r2 z2
          refine hno u (w1.trans ?_)
          rw [← e1, ← e2]
          obtain ⟨rf, rt, rbo, x1, x2, x3, x4⟩ := r
          simp only at w2 w3 v3 ⊢
          rw [w2, v3, w3]
    · rw [if_neg hpq]
      refine ⟨K2, hK2, fun x h => s2 x (s1 x h), hto, (fun h => by cases h), fun _ => ?_⟩
      cases hp' : p with
      | false =>
        obtain ⟨x, h1, h2⟩ := n1 hp'
        refine ⟨x, key_sub (.inl h1), fun hx => ?_⟩
        have := nodup_le (x :: K1) K2 (List.nodup_cons.2 ⟨h2, hK1.1⟩) (fun y hy => by
          rcases List.mem_cons.1 hy with rfl | hy
          · exact hx
          · exact s2 y hy)
        rw [List.length_cons, hK1.2.1, hK2.2.1] at this
        have := nb hp'
        omega
      | true =>
        cases hq' : q with
        | false =>
          obtain ⟨x, h1, h2⟩ := n2 hq'
          exact ⟨x, key_sub (.inr h1), h2⟩
        | true => exact absurd ⟨hp', hq'⟩ hpq
/-- How many nodes there are, and how many a term has. -/
theorem md_want {n room : Nat} {t : List Bool} (hn : n ≤ 16) (hr : room ≤ 1048576) (ht : t.length = 2 ^ n) :
    ((mdB ⟨n, room, [], []⟩ n 0 t).2.2 = true → cnt (mdB ⟨n, room, [], []⟩ n 0 t).1 = (wantB n t).length ∧ (wantB n t).length ≤ room) ∧
    ((mdB ⟨n, room, [], []⟩ n 0 t).2.2 = false → cnt (mdB ⟨n, room, [], []⟩ n 0 t).1 = room ∧ room < (wantB n t).length) := by
  have hg := good_new hn hr
  obtain ⟨-, -, -, c1, -, -, -, c2⟩ := md_spec n 0 ⟨n, room, [], []⟩ t hg (by simp) ht
  obtain ⟨K, k1, -, k2, k3, k4⟩ := md_keys n 0 ⟨n, room, [], []⟩ t [] hg (by simp) ht (keyed_new n room)
  have h0 : cnt ⟨n, room, [], []⟩ = 0 := rfl
  have h1 : freeP ⟨n, room, [], []⟩ = room := by unfold freeP; simp
  have k2' : ∀ x ∈ K, x ∈ keysB n 0 t := fun x hx => by
    rcases k2 x hx with h | h
    · cases h
    · exact h
  rw [h0, h1] at c1
  refine ⟨fun h => ?_, fun h => ?_⟩
  · have := want_all hn ht k1.1 k2' (k3 h)
    rw [this, k1.2.1]
    exact ⟨rfl, by omega⟩
  · have := want_more hn ht k1.1 k2' (k4 h)
    rw [k1.2.1] at this
    have := c2 h
    exact ⟨by omega, by omega⟩
end StoreMath
