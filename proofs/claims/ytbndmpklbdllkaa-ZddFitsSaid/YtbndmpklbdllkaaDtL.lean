/- Diagrams made from below, as tables and as terms; no statement of the seat. -/
import Derived.Test.YtbndmpklbdllkaaDdG
namespace StoreMath
open ArenaMath IndexMath Go.Proofs.Ytbndmpklbdllkaa.Nd.NodeMath Go.Proofs.Ytbndmpklbdllkaa

/-- The edge of the last level's. -/
def finB (b : Bool) (_n : Nat) : Nat × Nat := if b then (0, 1) else (0, 0)
/-- Is an edge right at a level? -/
abbrev rtB (a : Ab) (e : Nat × Nat) (l : Nat) : Bool := a.leads 2 e.1 e.2 (l : Int)
section
variable {a b : Ab} {e lo hi : Nat × Nat} {l n : Nat}
theorem rt_small (h : Hale a) (hr : rtB a e l = true) : e.1 < 256 ∧ e.2 < 4294967296 := by
  obtain ⟨hp, hx⟩ := leads_iff.1 hr
  have h1 := hp.2.2.2.2.2.2.1 (.inl (by decide))
  refine ⟨by omega, ?_⟩
  rcases hx with h2 | ⟨r, h2, _⟩
  · omega
  · exact h.small h2
theorem rt_ext (hx : Ext a b) (hr : rtB a e l = true) : rtB b e l = true := leads_more hx.n (hx.more _) hr
theorem rt_fin (ha : Hale a) (v : Bool) : rtB a (finB v a.n) a.n = true := by
  have h16 := ha.ok.n
  have hpl : ∀ u, PlainP 2 0 u (a.n : Int) (a.n : Int) := fun u => ⟨by decide, by decide, by omega, by omega, by omega, by omega, fun _ => rfl, fun h => by cases h⟩
  cases v
  · exact leads_iff.2 ⟨hpl 0, .inl (by show 0 < 2; decide)⟩
  · exact leads_iff.2 ⟨hpl 1, .inl (by show 1 < 2; decide)⟩
theorem rt_end (ha : Hale a) (hr : rtB a e a.n = true) : e = finB (decide (e.2 ≠ 0)) a.n := by
  obtain ⟨hp, hx⟩ := leads_iff.1 hr
  have h1 := hp.2.2.2.2.2.2.1 (.inl (by decide))
  obtain ⟨t, u⟩ := e
  simp only at h1 hx
  subst h1
  rcases hx with h2 | ⟨r, h2, _, h3, _⟩
  · have : u = 0 ∨ u = 1 := by omega
    rcases this with rfl | rfl <;> rfl
  · exfalso
    have := ha.sound u r h2
    unfold Ab.fits at this
    simp only [Bool.and_eq_true, decide_eq_true_eq] at this
    have h4 := this.1.2.2.2.2.1
    have h5 := this.1.2.2.2.2.2.1
    omega
theorem vw_ext (_ha : Hale a) (hx : Ext a b) (hl : l < a.n) (hr : rtB a e l = true) : vwB b e.1 e.2 l = vwB a e.1 e.2 l := by
  have hv : ¬ ((l : Int) < 0 ∨ (a.n : Int) ≤ (l : Int)) := by omega
  have hv' : ¬ ((l : Int) < 0 ∨ (b.n : Int) ≤ (l : Int)) := by rw [hx.n]; exact hv
  have hr' := rt_ext hx hr
  obtain ⟨-, hh⟩ := leads_iff.1 hr
  cases hn : a.node e.2 with
  | some r =>
    have hn' : b.node e.2 = some r := hx.more _ _ hn
    by_cases ht : (r.top : Int) = (l : Int)
    · rw [vwB_at hv hr hn ht, vwB_at hv' hr' hn' ht]
    · rw [vwB_off hv hr hn ht, vwB_off hv' hr' hn' ht]
  | none =>
    have hu : e.2 < 2 := by
      rcases hh with h | ⟨r, h, _⟩
      · exact h
      · rw [hn] at h; cases h
    rw [vwB_none hv hr hn, vwB_none hv' hr' (node_low hu)]
theorem vw_right (ha : Hale a) (hl : l < a.n) (hr : rtB a e l = true) : (vwB a e.1 e.2 l).2.2 = 0 ∧ rtB a (vwB a e.1 e.2 l).1 (l + 1) = true ∧ rtB a (vwB a e.1 e.2 l).2.1 (l + 1) = true := by
  obtain ⟨m, hm⟩ := ha.pm
  obtain ⟨h1, h2⟩ := make_view ha.ok hm ha.sound (by omega) (by omega) hr
  refine ⟨h1, ?_⟩
  have hv : ¬ ((l : Int) < 0 ∨ (a.n : Int) ≤ (l : Int)) := by omega
  by_cases hb : a.leads 2 (vwB a e.1 e.2 l).1.1 (vwB a e.1 e.2 l).1.2 ((l : Int) + 1) = false ∨ a.leads 2 (vwB a e.1 e.2 l).2.1.1 (vwB a e.1 e.2 l).2.1.2 ((l : Int) + 1) = false
  · rw [mkB_arg hv hb] at h2
    have := congrArg (fun q => q.2.2) h2
    simp at this
  · simp only [not_or, Bool.not_eq_false] at hb
    unfold rtB
    rw [show ((l + 1 : Nat) : Int) = (l : Int) + 1 by omega]
    exact hb
/-- What Make tells of right halves. -/
inductive Makes (a : Ab) (l : Nat) (lo hi : Nat × Nat) : Ab → Nat × Nat → Nat → Prop
  | yes {b : Ab} {e : Nat × Nat} : Hale b → Ext a b → rtB b e l = true → vwB b e.1 e.2 l = (lo, hi, 0) → freeP a ≤ freeP b + 1 ∧ freeP b ≤ freeP a → (freeP b = freeP a → ∀ u q, nodeOf b.sl u = some q → nodeOf a.sl u = some q) → (∀ u q, nodeOf b.sl u = some q → nodeOf a.sl u = some q ∨ (u = e.2 ∧ q = ⟨2, l, l, lo.1, lo.2, hi.1, hi.2⟩ ∧ hi ≠ (0, 0))) → cnt b + freeP b = cnt a + freeP a → Makes a l lo hi b e 0
  | full : freeP a = 0 → hi ≠ (0, 0) → (∀ j, nodeOf a.sl j ≠ some ⟨2, l, l, lo.1, lo.2, hi.1, hi.2⟩) → Makes a l lo hi a (0, 0) 6
theorem rt_up (h : rtB a e (l + 1) = true) (hl : l < a.n) : rtB a e l = true := by
  obtain ⟨hp, hx⟩ := leads_iff.1 h
  refine leads_iff.2 ⟨⟨hp.1, hp.2.1, hp.2.2.1, hp.2.2.2.1, by omega, by omega, hp.2.2.2.2.2.2.1, fun h => by cases h⟩, ?_⟩
  rcases hx with h | ⟨r, h1, h2, h3, h4⟩
  · exact .inl h
  · exact .inr ⟨r, h1, h2, by omega, h4⟩
theorem makes (ha : Hale a) (hl : l < a.n) (h1 : rtB a lo (l + 1) = true) (h2 : rtB a hi (l + 1) = true) : Makes a l lo hi (mkB a l lo.1 lo.2 hi.1 hi.2).1 (mkB a l lo.1 lo.2 hi.1 hi.2).2.1 (mkB a l lo.1 lo.2 hi.1 hi.2).2.2 := by
  have hv : ¬ ((l : Int) < 0 ∨ (a.n : Int) ≤ (l : Int)) := by omega
  have k1 : a.leads 2 lo.1 lo.2 ((l : Int) + 1) = true := by have := h1; unfold rtB at this; rw [show ((l + 1 : Nat) : Int) = (l : Int) + 1 by omega] at this; exact this
  have k2 : a.leads 2 hi.1 hi.2 ((l : Int) + 1) = true := by have := h2; unfold rtB at this; rw [show ((l + 1 : Nat) : Int) = (l : Int) + 1 by omega] at this; exact this
  have h16 := ha.ok.n
  obtain ⟨s1, s2⟩ := rt_small ha h1
  obtain ⟨s3, s4⟩ := rt_small ha h2
  by_cases he : hi.2 = 0
  · rw [mkB_same hv k1 k2 he]
    have hx := rt_up h1 hl
    have hh0 : hi = (0, 0) := Prod.ext (leads_tag k2) he
    refine .yes ha (Ext.refl a) hx ?_ ⟨Nat.le_succ _, Nat.le_refl _⟩ (fun _ u q h => h) (fun u q h => .inl h) rfl
    obtain ⟨-, hh⟩ := leads_iff.1 h1
    cases hn : a.node lo.2 with
    | some r =>
      have ht : ¬ (r.top : Int) = (l : Int) := by
        rcases hh with h | ⟨r', h, _, h3, _⟩
        · have := node_low (sl := a.sl) h; unfold Ab.node at hn; rw [this] at hn; cases hn
        · rw [hn] at h; injection h with h; subst h; omega
      rw [vwB_off hv hx hn ht, hh0]
    | none => rw [vwB_none hv hx hn, hh0]
  · rw [mkB_find hv k1 k2 he]
    have hne : hi ≠ (0, 0) := fun h => he (by rw [h])
    have hok : (⟨2, (l : Int).toNat, (l : Int).toNat, lo.1, lo.2, hi.1, hi.2⟩ : Rec).Ok := ⟨by show 2 < 256; decide, by show (l : Int).toNat < 256; omega, by show (l : Int).toNat < 256; omega, s1, s2, s3, s4⟩
    have hfit : a.fits ⟨2, (l : Int).toNat, (l : Int).toNat, lo.1, lo.2, hi.1, hi.2⟩ = true := by
      unfold Ab.fits
      simp only [Bool.and_eq_true, decide_eq_true_eq]
      rw [show (((l : Int).toNat : Nat) : Int) = (l : Int) by omega]
      refine ⟨⟨by decide, by decide, by omega, by omega, Nat.le_refl _, by omega, fun h => by omega, ?_, ?_, fun h => by omega, fun _ _ => by omega⟩, k1, k2⟩
      · rw [show (((l : Int).toNat : Nat) : Int) = (l : Int) by omega]; exact (leads_iff.1 k1).1
      · rw [show (((l : Int).toNat : Nat) : Int) = (l : Int) by omega]; exact (leads_iff.1 k2).1
    have hf := finds ha hok
    rw [show (l : Int).toNat = l by omega] at *
    generalize a.find ⟨2, l, l, lo.1, lo.2, hi.1, hi.2⟩ = q at *
    obtain ⟨b, id, er⟩ := q
    simp only at hf ⊢
    have hmain : ∀ b' : Ab, Hale b' → Ext a b' → nodeOf b'.sl id = some ⟨2, l, l, lo.1, lo.2, hi.1, hi.2⟩ → rtB b' (0, id) l = true ∧ vwB b' 0 id l = (lo, hi, 0) := fun b' hb hx hn => by
      have hvb : ¬ ((l : Int) < 0 ∨ (b'.n : Int) ≤ (l : Int)) := by rw [hx.n]; exact hv
      have hr : rtB b' (0, id) l = true := leads_iff.2 ⟨⟨by decide, by decide, by omega, by rw [hx.n]; omega, by omega, by rw [hx.n]; omega, fun _ => rfl, fun h => by cases h⟩, .inr ⟨_, hn, rfl, Int.le_refl _, Nat.zero_le _⟩⟩
      exact ⟨hr, by rw [vwB_at hvb hr hn rfl]⟩
    cases hf with
    | there hn =>
      obtain ⟨q1, q2⟩ := hmain a ha (Ext.refl a) hn
      exact .yes ha (Ext.refl a) q1 q2 ⟨Nat.le_succ _, Nat.le_refl _⟩ (fun _ u q h => h) (fun u q h => .inl h) rfl
    | wrong h => rw [hfit] at h; cases h
    | full hno _ h0 => exact .full h0 hne hno
    | new hno _ hb hx h0 hj hfr hc =>
      obtain ⟨q1, q2⟩ := hmain b hb hx (by rw [hj, if_pos rfl])
      refine .yes hb hx q1 q2 ⟨by omega, by omega⟩ (fun h => by omega) (fun u q h => ?_) (by omega)
      rw [hj] at h
      by_cases e : u = id
      · rw [if_pos e] at h
        injection h with h
        exact .inr ⟨e, h.symm, hne⟩
      · rw [if_neg e] at h
        exact .inl h
end
end StoreMath
namespace StoreMath
open ArenaMath IndexMath Go.Proofs.Ytbndmpklbdllkaa.Nd.NodeMath Go.Proofs.Ytbndmpklbdllkaa

/-- The table of an edge, k levels deep. -/
def tabB (a : Ab) : Nat → Nat → Nat × Nat → List Bool
  | 0, _, e => [decide (e.2 ≠ 0)]
  | k + 1, l, e => tabB a k (l + 1) (vwB a e.1 e.2 l).1 ++ tabB a k (l + 1) (vwB a e.1 e.2 l).2.1
/-- Made: a table's edge from a level on; could it be made? -/
def mdB (a : Ab) : Nat → Nat → List Bool → Ab × (Nat × Nat) × Bool
  | 0, l, t => (a, finB (t.headD false) l, true)
  | k + 1, l, t =>
    if (mdB a k (l + 1) (t.take (2 ^ k))).2.2 = true ∧ (mdB (mdB a k (l + 1) (t.take (2 ^ k))).1 k (l + 1) (t.drop (2 ^ k))).2.2 = true then
      ((mkB (mdB (mdB a k (l + 1) (t.take (2 ^ k))).1 k (l + 1) (t.drop (2 ^ k))).1 l (mdB a k (l + 1) (t.take (2 ^ k))).2.1.1 (mdB a k (l + 1) (t.take (2 ^ k))).2.1.2 (mdB (mdB a k (l + 1) (t.take (2 ^ k))).1 k (l + 1) (t.drop (2 ^ k))).2.1.1 (mdB (mdB a k (l + 1) (t.take (2 ^ k))).1 k (l + 1) (t.drop (2 ^ k))).2.1.2).1,
       (mkB (mdB (mdB a k (l + 1) (t.take (2 ^ k))).1 k (l + 1) (t.drop (2 ^ k))).1 l (mdB a k (l + 1) (t.take (2 ^ k))).2.1.1 (mdB a k (l + 1) (t.take (2 ^ k))).2.1.2 (mdB (mdB a k (l + 1) (t.take (2 ^ k))).1 k (l + 1) (t.drop (2 ^ k))).2.1.1 (mdB (mdB a k (l + 1) (t.take (2 ^ k))).1 k (l + 1) (t.drop (2 ^ k))).2.1.2).2.1,
       decide ((mkB (mdB (mdB a k (l + 1) (t.take (2 ^ k))).1 k (l + 1) (t.drop (2 ^ k))).1 l (mdB a k (l + 1) (t.take (2 ^ k))).2.1.1 (mdB a k (l + 1) (t.take (2 ^ k))).2.1.2 (mdB (mdB a k (l + 1) (t.take (2 ^ k))).1 k (l + 1) (t.drop (2 ^ k))).2.1.1 (mdB (mdB a k (l + 1) (t.take (2 ^ k))).1 k (l + 1) (t.drop (2 ^ k))).2.1.2).2.2 = 0))
    else ((mdB (mdB a k (l + 1) (t.take (2 ^ k))).1 k (l + 1) (t.drop (2 ^ k))).1, (0, 0), false)
theorem mdB_succ (a : Ab) (k l : Nat) (t : List Bool) {b c : Ab} {lo hi : Nat × Nat} {p q : Bool} (h1 : mdB a k (l + 1) (t.take (2 ^ k)) = (b, lo, p)) (h2 : mdB b k (l + 1) (t.drop (2 ^ k)) = (c, hi, q)) :
    mdB a (k + 1) l t = if p = true ∧ q = true then ((mkB c l lo.1 lo.2 hi.1 hi.2).1, (mkB c l lo.1 lo.2 hi.1 hi.2).2.1, decide ((mkB c l lo.1 lo.2 hi.1 hi.2).2.2 = 0)) else (c, (0, 0), false) := by
  unfold mdB
  rw [h1]
  simp only
  rw [h2]
section
variable {a b : Ab} {e : Nat × Nat} {l n k : Nat}
theorem tab_len : ∀ (k l : Nat) (e : Nat × Nat), (tabB a k l e).length = 2 ^ k := by
  intro k
  induction k with
  | zero => intro l e; rfl
  | succ k ih => intro l e; unfold tabB; rw [List.length_append, ih, ih]; omega
theorem tab_ext (ha : Hale a) (hx : Ext a b) : ∀ (k l : Nat) (e : Nat × Nat), l + k = a.n → rtB a e l = true → tabB b k l e = tabB a k l e := by
  intro k
  induction k with
  | zero => intro l e _ _; rfl
  | succ k ih =>
    intro l e hl hr
    unfold tabB
    rw [vw_ext ha hx (by omega) hr]
    obtain ⟨-, h1, h2⟩ := vw_right ha (by omega) hr
    rw [ih _ _ (by omega) h1, ih _ _ (by omega) h2]
theorem append_half {α : Type} {x y u v : List α} (h : x.length = u.length) (he : x ++ y = u ++ v) : x = u ∧ y = v := List.append_inj he h
/-- One set, one edge. -/
theorem canon (ha : Hale a) : ∀ (k l : Nat) (e f : Nat × Nat), l + k = a.n → rtB a e l = true → rtB a f l = true → tabB a k l e = tabB a k l f → e = f := by
  intro k
  induction k with
  | zero =>
    intro l e f hl h1 h2 ht
    obtain rfl : l = a.n := by omega
    rw [rt_end ha h1, rt_end ha h2]
    unfold tabB at ht
    injection ht with ht
    rw [ht]
  | succ k ih =>
    intro l e f hl h1 h2 ht
    unfold tabB at ht
    obtain ⟨-, p1, p2⟩ := vw_right ha (by omega) h1
    obtain ⟨-, q1, q2⟩ := vw_right ha (by omega) h2
    obtain ⟨t1, t2⟩ := append_half (by rw [tab_len, tab_len]) ht
    have e1 := ih _ _ _ (by omega) p1 q1 t1
    have e2 := ih _ _ _ (by omega) p2 q2 t2
    obtain ⟨m, hm⟩ := ha.pm
    obtain ⟨-, m1⟩ := make_view ha.ok hm ha.sound (by omega) (by omega) h1
    obtain ⟨-, m2⟩ := make_view ha.ok hm ha.sound (by omega) (by omega) h2
    rw [e1, e2, m2] at m1
    injection m1 with _ m1
    injection m1 with m1 _
    exact m1.symm
/-- What Made comes to. -/
theorem md_spec : ∀ (k l : Nat) (a : Ab) (t : List Bool), Hale a → l + k = a.n → t.length = 2 ^ k →
    Hale (mdB a k l t).1 ∧ Ext a (mdB a k l t).1 ∧ ((mdB a k l t).2.2 = true → rtB (mdB a k l t).1 (mdB a k l t).2.1 l = true ∧ tabB (mdB a k l t).1 k l (mdB a k l t).2.1 = t) ∧
    cnt (mdB a k l t).1 + freeP (mdB a k l t).1 = cnt a + freeP a ∧ freeP a + 1 ≤ freeP (mdB a k l t).1 + 2 ^ k ∧ freeP (mdB a k l t).1 ≤ freeP a ∧ (2 ^ k ≤ freeP a + 1 → (mdB a k l t).2.2 = true) ∧ ((mdB a k l t).2.2 = false → freeP (mdB a k l t).1 = 0) := by
  intro k
  induction k with
  | zero =>
    intro l a t ha hl ht
    have hl' : l = a.n := by omega
    match t, ht with
    | [v], _ =>
      show Hale a ∧ Ext a a ∧ (true = true → rtB a (finB v l) l = true ∧ tabB a 0 l (finB v l) = [v]) ∧ _ ∧ freeP a + 1 ≤ freeP a + 2 ^ 0 ∧ freeP a ≤ freeP a ∧ (_ → true = true) ∧ (true = false → _)
      refine ⟨ha, Ext.refl a, fun _ => ⟨?_, ?_⟩, rfl, Nat.le_refl _, Nat.le_refl _, fun _ => rfl, fun h => by cases h⟩
      · rw [hl']; exact rt_fin ha v
      · unfold tabB finB; cases v <;> rfl
  | succ k ih =>
    intro l a t ha hl ht
    have hp : 2 ^ (k + 1) = 2 ^ k + 2 ^ k := by omega
    have ht1 : (t.take (2 ^ k)).length = 2 ^ k := by rw [List.length_take]; omega
    have ht2 : (t.drop (2 ^ k)).length = 2 ^ k := by rw [List.length_drop]; omega
    have i1 := ih (l + 1) a (t.take (2 ^ k)) ha (by omega) ht1
    generalize hq1 : mdB a k (l + 1) (t.take (2 ^ k)) = q1 at i1
    obtain ⟨b, lo, p⟩ := q1
    simp only at i1
    obtain ⟨gb, xb, rb, cb, fb, ub, ob, nb⟩ := i1
    have i2 := ih (l + 1) b (t.drop (2 ^ k)) gb (by rw [xb.n]; omega) ht2
    generalize hq2 : mdB b k (l + 1) (t.drop (2 ^ k)) = q2 at i2
    obtain ⟨c, hi, q⟩ := q2
    simp only at i2
    obtain ⟨gc, xc, rc, cc, fc, uc, oc, nc⟩ := i2
    rw [mdB_succ a k l t hq1 hq2]
    have hpos : 0 < 2 ^ k := Nat.two_pow_pos k
    by_cases hpq : p = true ∧ q = true
    · rw [if_pos hpq]
      obtain ⟨rp, rq⟩ := hpq
      obtain ⟨r1, tb1⟩ := rb rp
      obtain ⟨r2, tb2⟩ := rc rq
      have r1' := rt_ext xc r1
      have hlc : l < c.n := by rw [xc.n, xb.n]; omega
      have hm := makes gc hlc r1' r2
      have tb1' : tabB c k (l + 1) lo = t.take (2 ^ k) := by rw [tab_ext gb xc k (l + 1) lo (by rw [xb.n]; omega) r1]; exact tb1
      generalize mkB c l lo.1 lo.2 hi.1 hi.2 = z at hm ⊢
      obtain ⟨d, e, er⟩ := z
      simp only at hm ⊢
      cases hm with
      | yes gd xd rd hvw hfr _ _ hcn =>
        have xd' := (xb.trans xc).trans xd
        refine ⟨gd, xd', fun _ => ⟨rd, ?_⟩, by omega, by omega, by omega, fun _ => rfl, fun h => by cases h⟩
        unfold tabB
        rw [hvw, tab_ext gc xd k (l + 1) lo (by rw [xc.n, xb.n]; omega) r1', tb1', tab_ext gc xd k (l + 1) hi (by rw [xc.n, xb.n]; omega) r2, tb2, List.take_append_drop]
      | full h0 _ _ => exact ⟨gc, xb.trans xc, (fun h => by cases h), by omega, by omega, by omega, fun h => by omega, fun _ => h0⟩
    · rw [if_neg hpq]
      refine ⟨gc, xb.trans xc, (fun h => by cases h), by show cnt c + freeP c = _; omega, by show _ ≤ freeP c + _; omega, by show freeP c ≤ _; omega, fun h => absurd ⟨ob (by omega), oc (by omega)⟩ hpq, fun _ => ?_⟩
      cases hp' : p with
      | false => have := nb hp'; show freeP c = 0; omega
      | true =>
        cases hq' : q with
        | false => exact nc hq'
        | true => exact absurd ⟨hp', hq'⟩ hpq
end
end StoreMath
namespace StoreMath
open ArenaMath IndexMath Go.Proofs.Ytbndmpklbdllkaa.Nd.NodeMath Go.Proofs.Ytbndmpklbdllkaa

/-- A diagram written out: an end's text; or what stands ahead of a node, its level's text, its two sides. -/
inductive Tr
  | leaf (s : List UInt8)
  | node (pre lab : List UInt8) (lo hi : Tr)
/-- Its text. -/
def tx : Tr → List UInt8
  | .leaf s => s
  | .node pre lab lo hi => pre ++ ([40] ++ lab ++ [32] ++ tx lo ++ [32] ++ tx hi ++ [41])
def endL (b : Bool) : List UInt8 := if b then [49] else [48]
/-- Nothing is in a table. -/
abbrev Nul (t : List Bool) : Prop := t = List.replicate t.length false
theorem nul_append {x y : List Bool} (hx : Nul x) (hy : Nul y) : Nul (x ++ y) := by
  show x ++ y = List.replicate (x ++ y).length false
  rw [List.length_append, ← List.replicate_append_replicate, ← hx, ← hy]
theorem nul_take {x : List Bool} (hx : Nul x) (m : Nat) : Nul (x.take m) := by
  rw [hx, List.take_replicate]; simp [Nul]
theorem nul_drop {x : List Bool} (hx : Nul x) (m : Nat) : Nul (x.drop m) := by
  rw [hx, List.drop_replicate]; simp [Nul]
theorem nul_eq {x y : List Bool} (hx : Nul x) (hy : Nul y) (h : x.length = y.length) : x = y := by rw [hx, hy, h]
/-- The one term of a table. -/
def termB : Nat → Nat → List Bool → Tr
  | 0, _, t => .leaf (endL (t.headD false))
  | k + 1, l, t => if Nul (t.drop (2 ^ k)) then termB k (l + 1) (t.take (2 ^ k)) else .node [] (Go.Lib.decDigits l) (termB k (l + 1) (t.take (2 ^ k))) (termB k (l + 1) (t.drop (2 ^ k)))
/-- An edge unfolded, at most d deep. -/
def unB (a : Ab) : Nat → Nat × Nat → Tr
  | 0, _ => .leaf [63]
  | d + 1, e => if e.2 < 2 then .leaf (Go.Lib.decDigits e.2) else match a.node e.2 with
    | some r => .node [] (Go.Lib.decDigits r.top) (unB a d (r.lt, r.la)) (unB a d (r.ht, r.ha))
    | none => .leaf [63]
section
variable {a b : Ab} {e : Nat × Nat} {l n k : Nat}
theorem take_half {α : Type} {x y : List α} {m : Nat} (h : x.length = m) : (x ++ y).take m = x ∧ (x ++ y).drop m = y := by subst h; simp
theorem dec_end (v : Bool) : Go.Lib.decDigits (finB v n).2 = endL v := by
  cases v
  · exact Go.Lib.decDigits_one (i := 0) (by decide)
  · exact Go.Lib.decDigits_one (i := 1) (by decide)
theorem vw_zero (ha : Hale a) (hl : l < a.n) : vwB a 0 0 l = ((0, 0), (0, 0), 0) :=
  vwB_none (by omega) (leads_zero ha.ok (by omega) (by omega)) (node_low (by omega))
theorem tab_zero (ha : Hale a) : ∀ (k l : Nat), l + k = a.n → Nul (tabB a k l (0, 0)) := by
  intro k
  induction k with
  | zero => intro l _; rfl
  | succ k ih =>
    intro l hl
    unfold tabB
    simp only
    rw [vw_zero ha (by omega)]
    exact nul_append (ih _ (by omega)) (ih _ (by omega))
theorem nul_iff (ha : Hale a) (hl : l + k = a.n) (hr : rtB a e l = true) : Nul (tabB a k l e) ↔ e = (0, 0) := by
  have hz := tab_zero ha k l hl
  constructor
  · intro h
    exact canon ha k l e (0, 0) hl hr (leads_zero ha.ok (by omega) (by omega)) (nul_eq h hz (by rw [tab_len, tab_len]))
  · intro h; rw [h]; exact hz
/-- What unfolds is the table's term. -/
theorem un_term (ha : Hale a) : ∀ (k l d : Nat) (e : Nat × Nat), l + k = a.n → rtB a e l = true → k < d → unB a d e = termB k l (tabB a k l e) := by
  intro k
  induction k with
  | zero =>
    intro l d e hl hr hd
    obtain rfl : l = a.n := by omega
    obtain ⟨d, rfl⟩ : ∃ d', d = d' + 1 := ⟨d - 1, by omega⟩
    have he := rt_end ha hr
    unfold unB tabB termB
    have h2 : e.2 < 2 := by rw [he]; unfold finB; split <;> decide
    rw [if_pos h2]
    have := dec_end (n := a.n) (decide (e.2 ≠ 0))
    rw [← he] at this
    rw [this]; rfl
  | succ k ih =>
    intro l d e hl hr hd
    have hv : ¬ ((l : Int) < 0 ∨ (a.n : Int) ≤ (l : Int)) := by omega
    obtain ⟨-, h1, h2⟩ := vw_right ha (by omega) hr
    have hh := take_half (x := tabB a k (l + 1) (vwB a e.1 e.2 l).1) (y := tabB a k (l + 1) (vwB a e.1 e.2 l).2.1) (tab_len k (l + 1) _)
    show unB a d e = termB (k + 1) l (tabB a k (l + 1) (vwB a e.1 e.2 l).1 ++ tabB a k (l + 1) (vwB a e.1 e.2 l).2.1)
    unfold termB
    rw [hh.1, hh.2]
    obtain ⟨-, hx⟩ := leads_iff.1 hr
    have hoff : vwB a e.1 e.2 l = (e, (0, 0), 0) → unB a d e = if Nul (tabB a k (l + 1) (vwB a e.1 e.2 l).2.1) then termB k (l + 1) (tabB a k (l + 1) (vwB a e.1 e.2 l).1) else .node [] (Go.Lib.decDigits l) (termB k (l + 1) (tabB a k (l + 1) (vwB a e.1 e.2 l).1)) (termB k (l + 1) (tabB a k (l + 1) (vwB a e.1 e.2 l).2.1)) := fun hvw => by
      rw [hvw] at h1 ⊢
      rw [if_pos (tab_zero ha k (l + 1) (by omega))]
      exact ih (l + 1) d e (by omega) h1 (by omega)
    cases hn : a.node e.2 with
    | none => exact hoff (vwB_none hv hr hn)
    | some r =>
      by_cases ht : (r.top : Int) = (l : Int)
      · have hvw := vwB_at hv hr hn ht
        have h2' : ¬ e.2 < 2 := fun h => by have := node_low (sl := a.sl) h; unfold Ab.node at hn; rw [this] at hn; cases hn
        rw [hvw] at h1 h2 ⊢
        simp only at h1 h2 ⊢
        have hne : ¬ Nul (tabB a k (l + 1) (r.ht, r.ha)) := fun h => by
          have h0 := (nul_iff ha (by omega) h2).1 h
          have hfit := ha.sound e.2 r hn
          unfold Ab.fits at hfit
          simp only [Bool.and_eq_true, decide_eq_true_eq] at hfit
          have hf : r.form = 2 := by
            rcases hx with h | ⟨r', h, h3, _⟩
            · exact absurd h h2'
            · rw [hn] at h; injection h with h; subst h; exact h3
          have h5 := hfit.1.2.2.2.2.2.2.2.2.2.1 (.inl hf)
          injection h0 with _ h0
          omega
        rw [if_neg hne]
        obtain ⟨d, rfl⟩ : ∃ d', d = d' + 1 := ⟨d - 1, by omega⟩
        rw [unB, if_neg h2', hn]
        simp only
        rw [ih (l + 1) d _ (by omega) h1 (by omega), ih (l + 1) d _ (by omega) h2 (by omega), show r.top = l by omega]
      · exact hoff (vwB_off hv hr hn ht)
theorem dec_short {u : Nat} (h : u < 100) : 1 ≤ (Go.Lib.decDigits u).length ∧ (Go.Lib.decDigits u).length ≤ 2 := by
  by_cases h1 : u < 10
  · rw [Go.Lib.decDigits_one h1]; exact ⟨by simp, by simp⟩
  · rw [Go.Lib.decDigits_two h1 h]; exact ⟨by simp, by simp⟩
/-- A term is short. -/
theorem term_len : ∀ (k l : Nat) (t : List Bool), l + k ≤ 16 → (tx (termB k l t)).length + 6 ≤ 7 * 2 ^ k := by
  intro k
  induction k with
  | zero => intro l t _; unfold termB tx endL; split <;> decide
  | succ k ih =>
    intro l t hl
    have h1 := ih (l + 1) (t.take (2 ^ k)) (by omega)
    have h2 := ih (l + 1) (t.drop (2 ^ k)) (by omega)
    have h3 := dec_short (u := l) (by omega)
    unfold termB
    split
    · omega
    · simp only [tx, List.length_append, List.length_cons, List.length_nil]
      omega
end
end StoreMath
