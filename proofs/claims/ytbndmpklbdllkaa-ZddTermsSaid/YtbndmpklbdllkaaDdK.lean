/- A ZDD's halves and Make of them, over a store whose nodes may be; nothing of the program. -/
import Derived.Test.YtbndmpklbdllkaaDdMath
import Derived.Test.YtbndmpklbdllkaaBuR
namespace StoreMath
open ArenaMath IndexMath Go.Proofs.Ytbndmpklbdllkaa.Nd.NodeMath Go.Proofs.Ytbndmpklbdllkaa
theorem leads_iff {a : Ab} {f t u : Nat} {l : Int} : a.leads f t u l = true ↔ PlainP f t u l (a.n : Int) ∧ (u < 2 ∨ ∃ r, a.node u = some r ∧ r.form = f ∧ l ≤ (r.top : Int) ∧ t ≤ r.top) := by
  unfold Ab.leads leadsB
  rw [Bool.and_eq_true, decide_eq_true_eq, Bool.or_eq_true, decide_eq_true_eq]
  constructor
  · rintro ⟨h1, h2 | h2⟩
    · exact ⟨h1, .inl h2⟩
    · refine ⟨h1, .inr ?_⟩
      cases e : a.node u with
      | none => rw [e] at h2; cases h2
      | some r =>
        rw [e] at h2
        simp only [Bool.and_eq_true, decide_eq_true_eq] at h2
        exact ⟨r, rfl, h2.1, h2.2.1, h2.2.2⟩
  · rintro ⟨h1, h2 | ⟨r, h2, h3, h4, h5⟩⟩
    · exact ⟨h1, .inl h2⟩
    · refine ⟨h1, .inr ?_⟩
      rw [h2]
      simp [h3, h4, h5]
theorem leads_tag {a : Ab} {t u : Nat} {l : Int} (h : a.leads 2 t u l = true) : t = 0 := (leads_iff.1 h).1.2.2.2.2.2.2.1 (.inl (by decide))
/-- Nothing leads at each level. -/
theorem leads_zero {a : Ab} (ho : a.Ok) {l : Int} (h0 : 0 ≤ l) (hn : l ≤ (a.n : Int)) : a.leads 2 0 0 l = true :=
  leads_iff.2 ⟨⟨by decide, by decide, by omega, by have := ho.n; omega, h0, hn, fun _ => rfl, fun h => by cases h⟩, .inl (by decide)⟩
/-- Make of the halves of an edge that leads tells it again. -/
theorem make_view {a : Ab} {m : List (Rec × Nat)} (ho : a.Ok) (p : Pm a.sl a.dr m) (hs : Sound a) {t u : Nat} {l : Int} (h0 : 0 ≤ l) (hn : l < (a.n : Int)) (hl : a.leads 2 t u l = true) :
    (vwB a t u l).2.2 = 0 ∧ mkB a l (vwB a t u l).1.1 (vwB a t u l).1.2 (vwB a t u l).2.1.1 (vwB a t u l).2.1.2 = (a, (t, u), 0) := by
  have hv : ¬ (l < 0 ∨ (a.n : Int) ≤ l) := by omega
  obtain ⟨hp, hx⟩ := leads_iff.1 hl
  have ht : t = 0 := hp.2.2.2.2.2.2.1 (.inl (by decide))
  have hp1 : ∀ k : Int, 0 ≤ k → k ≤ (a.n : Int) → PlainP 2 t u k (a.n : Int) := fun k k0 kn => ⟨by decide, by decide, by omega, by have := ho.n; omega, k0, kn, fun _ => ht, fun h => by cases h⟩
  have hoff : (u < 2 ∨ ∃ r, a.node u = some r ∧ r.form = 2 ∧ l + 1 ≤ (r.top : Int) ∧ t ≤ r.top) → mkB a l t u 0 0 = (a, (t, u), 0) := fun h => by
    have h1 : a.leads 2 t u (l + 1) = true := leads_iff.2 ⟨hp1 _ (by omega) (by omega), h⟩
    exact mkB_same hv h1 (leads_zero ho (by omega) (by omega)) rfl
  cases hnode : a.node u with
  | none =>
    have hu : u < 2 := by
      rcases hx with h | ⟨r, h, _⟩
      · exact h
      · rw [hnode] at h; cases h
    rw [vwB_none hv hl hnode]
    exact ⟨rfl, hoff (.inl hu)⟩
  | some r =>
    by_cases htop : (r.top : Int) = l
    · rw [vwB_at hv hl hnode htop]
      refine ⟨rfl, ?_⟩
      have h2 : ¬ u < 2 := fun h => by have := node_low (sl := a.sl) h; unfold Ab.node at hnode; rw [this] at hnode; cases hnode
      obtain ⟨r', hr', hf, -, -⟩ := hx.resolve_left h2
      rw [hnode] at hr'
      injection hr' with hr'
      subst hr'
      have hfit := hs u r hnode
      unfold Ab.fits at hfit
      simp only [Bool.and_eq_true, decide_eq_true_eq] at hfit
      obtain ⟨hR, hl1, hl2⟩ := hfit
      obtain ⟨-, -, -, -, htb, -, hch, -, -, hha, -⟩ := hR
      have hbot : r.bot = r.top := by
        rcases Nat.lt_or_ge r.top r.bot with h | h
        · have := hch h; omega
        · omega
      rw [hbot, hf, htop] at hl1 hl2
      have hd : ¬ r.ha = 0 := fun h => by
        have := hha (.inl hf)
        omega
      rw [mkB_find hv hl1 hl2 hd]
      have hrec : (⟨2, l.toNat, l.toNat, r.lt, r.la, r.ht, r.ha⟩ : Rec) = r := by
        obtain ⟨f, tp, b, lt, la, htt, ha⟩ := r
        simp only at hf hbot htop
        subst hf hbot
        have : l.toNat = b := by omega
        rw [this]
      rw [hrec, find_known ((idOf_iff p ho.zero).2 hnode), ht]
    · rw [vwB_off hv hl hnode htop]
      refine ⟨rfl, hoff ?_⟩
      rcases hx with h | ⟨r', h1, h2, h3, h4⟩
      · exact .inl h
      · rw [hnode] at h1
        injection h1 with h1
        subst h1
        exact .inr ⟨r, hnode, h2, by omega, h4⟩
end StoreMath
