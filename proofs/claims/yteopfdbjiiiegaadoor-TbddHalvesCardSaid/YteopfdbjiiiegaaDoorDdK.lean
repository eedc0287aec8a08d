/- Which edges lead; nothing of the program. -/
import Derived.Test.YteopfdbjiiiegaaDoorDdMath
import Derived.Test.YteopfdbjiiiegaaDoorBuR
namespace StoreMath
open ArenaMath IndexMath Go.Proofs.YteopfdbjiiiegaaDoor.Nd.NodeMath Go.Proofs.YteopfdbjiiiegaaDoor
theorem leads_iff {a : Ab} {f t u : Nat} {l : Int} : a.leads f t u l = true ↔ PlainP f t u l (a.n : Int) ∧ (u < 2 ∨ ∃ r, a.node u = some r ∧ r.form = f ∧ l ≤ (r.top : Int) ∧ t ≤ r.top) := by
  unfold Ab.leads leadsB
  rw [Bool.and_eq_true, decide_eq_true_eq, Bool.or_eq_true, decide_eq_true_eq]
  constructor
  · rintro ⟨h1, h2 | h2⟩
    · exact ⟨h1, .inl h2⟩
    · refine ⟨h1, .inr ?_⟩
      cases e : a.node u with
      | none => rw [e] at h2; cases h2
      | some r =>
        rw [e] at h2
        simp only [Bool.and_eq_true, decide_eq_true_eq] at h2
        exact ⟨r, rfl, h2.1, h2.2.1, h2.2.2⟩
  · rintro ⟨h1, h2 | ⟨r, h2, h3, h4, h5⟩⟩
    · exact ⟨h1, .inl h2⟩
    · refine ⟨h1, .inr ?_⟩
      rw [h2]
      simp [h3, h4, h5]
theorem leads_tag {a : Ab} {t : Nat} {l : Int} (h : a.leads 5 t 0 l = true) : t = 0 := (leads_iff.1 h).1.2.2.2.2.2.2.1 (.inr rfl)
theorem leads_low {a : Ab} {t u : Nat} {l : Int} (h : a.leads 5 t u l = true) (hu : u ≠ 0) : l ≤ (t : Int) ∧ (t : Int) ≤ (a.n : Int) := (leads_iff.1 h).1.2.2.2.2.2.2.2 rfl hu
/-- Nothing leads at each level. -/
theorem leads_zero {a : Ab} (ho : a.Ok) {l : Int} (h0 : 0 ≤ l) (hn : l ≤ (a.n : Int)) : a.leads 5 0 0 l = true :=
  leads_iff.2 ⟨⟨by decide, by decide, by omega, by have := ho.n; omega, h0, hn, fun _ => rfl, fun _ h => absurd rfl h⟩, .inl (by decide)⟩
end StoreMath
