/- Going by steps stays among permutations; no statement of the seat. -/
import Derived.Test.YtlmpiadmgjfaiaaMath3
namespace PermMath
theorem going_rt {l : List Int} : ∀ {xs : List Int}, Rt xs → (∀ k ∈ l, 0 ≤ k ∧ k + 1 < xs.length) → Rt (going xs l) ∧ (going xs l).length = xs.length := by
  induction l with
  | nil => intro xs h _; exact ⟨h, rfl⟩
  | cons k t ih =>
    intro xs h hk
    have h1 := hk k (by simp)
    have h2 : Rt (swp xs k.toNat) := swp_rt (by omega) h
    have h3 := ih h2 (fun j hj => by rw [swp_len]; exact hk j (by simp [hj]))
    rw [swp_len] at h3
    exact h3
theorem going_take {xs l : List Int} {k : Nat} {z : Int} (h : l[k]? = some z) : going xs (l.take (k + 1)) = swp (going xs (l.take k)) z.toNat := by
  rw [take_snoc h, going_append]
  rfl
end PermMath
