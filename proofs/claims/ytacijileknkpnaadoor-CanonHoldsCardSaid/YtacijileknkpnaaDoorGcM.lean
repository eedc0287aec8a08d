/- Cubes of levels: their tables, and their trees; nothing of the program. -/
import Derived.Test.YtacijileknkpnaaDoorKt
import Derived.Test.YtacijileknkpnaaDoorGhM
namespace StoreMath
open ArenaMath IndexMath MarkMath Go.Proofs.YtacijileknkpnaaDoor.Nd.NodeMath Go.Proofs.YtacijileknkpnaaDoor

/-- A cube's table, k levels deep: 1 at some levels, 0 at others. -/
def cubT (o z : Nat) : Nat → Nat → List Bool
  | 0, _ => [true]
  | k + 1, l => (if o.testBit l then List.replicate (2 ^ k) false else cubT o z k (l + 1)) ++ (if z.testBit l then List.replicate (2 ^ k) false else cubT o z k (l + 1))
/-- What keeps a row out. -/
def badC (o z k l y j : Nat) : Bool := (!y.testBit (k - 1 - j) && o.testBit (l + j)) || (y.testBit (k - 1 - j) && z.testBit (l + j))
def okC (o z k l y : Nat) : Nat → Bool
  | 0 => true
  | j + 1 => okC o z k l y j && !badC o z k l y j
section
variable {o z : Nat}
theorem cub_len : ∀ (k l : Nat), (cubT o z k l).length = 2 ^ k := by
  intro k
  induction k with
  | zero => intro l; rfl
  | succ k ih =>
    intro l
    unfold cubT
    rw [List.length_append]
    have h : ∀ c : Bool, (if c then List.replicate (2 ^ k) false else cubT o z k (l + 1)).length = 2 ^ k := fun c => by
      cases c
      · exact ih _
      · exact List.length_replicate
    rw [h, h]; omega
theorem okC_next {k l y y' : Nat} (hy : ∀ j, j < k → y.testBit j = y'.testBit j) : ∀ j, j ≤ k → okC o z (k + 1) l y (j + 1) = (!badC o z (k + 1) l y 0 && okC o z k (l + 1) y' j) := by
  intro j
  induction j with
  | zero =>
    intro _
    show (true && !badC o z (k + 1) l y 0) = (!badC o z (k + 1) l y 0 && true)
    rw [Bool.true_and, Bool.and_true]
  | succ j ih =>
    intro hj
    rw [show okC o z (k + 1) l y (j + 1 + 1) = (okC o z (k + 1) l y (j + 1) && !badC o z (k + 1) l y (j + 1)) from rfl, ih (by omega),
      show okC o z k (l + 1) y' (j + 1) = (okC o z k (l + 1) y' j && !badC o z k (l + 1) y' j) from rfl]
    have : badC o z (k + 1) l y (j + 1) = badC o z k (l + 1) y' j := by
      unfold badC
      rw [show k + 1 - 1 - (j + 1) = k - 1 - j by omega, hy _ (by omega), show l + (j + 1) = l + 1 + j by omega]
    rw [this, Bool.and_assoc]
theorem cub_at : ∀ (k l y : Nat), y < 2 ^ k → (cubT o z k l)[y]? = some (okC o z k l y k) := by
  intro k
  induction k with
  | zero =>
    intro l y hy
    have : y = 0 := by omega
    subst this
    rfl
  | succ k ih =>
    intro l y hy
    have hp : 2 ^ (k + 1) = 2 ^ k + 2 ^ k := by omega
    have hlen : ∀ c : Bool, (if c then List.replicate (2 ^ k) false else cubT o z k (l + 1)).length = 2 ^ k := fun c => by
      cases c
      · exact cub_len _ _
      · exact List.length_replicate
    unfold cubT
    by_cases h : y < 2 ^ k
    · rw [List.getElem?_append_left (by rw [hlen]; exact h), okC_next (y' := y) (fun _ _ => rfl) k (Nat.le_refl _)]
      have hb : y.testBit k = false := Nat.testBit_lt_two_pow h
      have hbad : badC o z (k + 1) l y 0 = o.testBit l := by unfold badC; rw [show k + 1 - 1 - 0 = k by omega, hb, Nat.add_zero]; simp
      rw [hbad]
      cases ho : o.testBit l with
      | true => rw [if_pos rfl, List.getElem?_replicate, if_pos h]; rfl
      | false => rw [if_neg (by decide), ih _ _ h]; rfl
    · obtain ⟨y', rfl⟩ : ∃ y', y = 2 ^ k + y' := ⟨y - 2 ^ k, by omega⟩
      have h' : y' < 2 ^ k := by omega
      rw [List.getElem?_append_right (by rw [hlen]; omega), hlen, show 2 ^ k + y' - 2 ^ k = y' by omega, okC_next (y' := y') (fun j hj => Nat.testBit_two_pow_add_gt hj y') k (Nat.le_refl _)]
      have hb : (2 ^ k + y').testBit k = true := by rw [Nat.testBit_two_pow_add_eq, Nat.testBit_lt_two_pow h']; rfl
      have hbad : badC o z (k + 1) l (2 ^ k + y') 0 = z.testBit l := by unfold badC; rw [show k + 1 - 1 - 0 = k by omega, hb, Nat.add_zero]; simp
      rw [hbad]
      cases hz : z.testBit l with
      | true => rw [if_pos rfl, List.getElem?_replicate, if_pos h']; rfl
      | false => rw [if_neg (by decide), ih _ _ h']; rfl
theorem gmd_none {f n k l : Nat} (hf : IsF f) (hl : l + k = n) : gmd f k l (List.replicate (2 ^ k) false) = .nul :=
  (gnul_iff (n := n) hf hl List.length_replicate).2 (by show _ = _; rw [List.length_replicate])
/-- A cube's tree, from the one a level below. -/
theorem cub_tree {f n k l : Nat} (hf : IsF f) (hl : l + (k + 1) = n) : gmd f (k + 1) l (cubT o z (k + 1) l) =
    Gm f l (if o.testBit l then .nul else gmd f k (l + 1) (cubT o z k (l + 1))) (if z.testBit l then .nul else gmd f k (l + 1) (cubT o z k (l + 1))) := by
  have hlen : ∀ c : Bool, (if c then List.replicate (2 ^ k) false else cubT o z k (l + 1)).length = 2 ^ k := fun c => by
    cases c
    · exact cub_len _ _
    · exact List.length_replicate
  have hh : ∀ c : Bool, gmd f k (l + 1) (if c then List.replicate (2 ^ k) false else cubT o z k (l + 1)) = if c then .nul else gmd f k (l + 1) (cubT o z k (l + 1)) := fun c => by
    cases c
    · rfl
    · exact gmd_none (n := n) hf (by omega)
  show Gm f l (gmd f k (l + 1) (((if o.testBit l then List.replicate (2 ^ k) false else cubT o z k (l + 1)) ++ (if z.testBit l then List.replicate (2 ^ k) false else cubT o z k (l + 1)) : List Bool).take (2 ^ k))) (gmd f k (l + 1) (((if o.testBit l then List.replicate (2 ^ k) false else cubT o z k (l + 1)) ++ (if z.testBit l then List.replicate (2 ^ k) false else cubT o z k (l + 1)) : List Bool).drop (2 ^ k))) = _
  obtain ⟨e1, e2⟩ := gtake_half (y := if z.testBit l then List.replicate (2 ^ k) false else cubT o z k (l + 1)) (hlen (o.testBit l))
  rw [e1, e2, hh, hh]
end
end StoreMath
