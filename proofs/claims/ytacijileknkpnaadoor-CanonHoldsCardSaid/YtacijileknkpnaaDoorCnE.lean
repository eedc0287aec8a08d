/- A cube of levels, of any form: the walk; no statement of the seat. -/
import Derived.Test.YtacijileknkpnaaDoorCnC
namespace Go.Proofs.YtacijileknkpnaaDoor
open Go.RowKit Sq StoreMath ArenaMath IndexMath MarkMath
set_option maxHeartbeats 4000000
set_option maxRecDepth 100000

/-- Behind the levels from one on. -/
def cuG (f : Nat) (a : Ab) (o z : Nat) : Nat → Nat → Ab × (Nat × Nat) × Nat
  | 0, m => (a, gFin f m true, 0)
  | k + 1, l =>
    if (cuG f a o z k (l + 1)).2.2 ≠ 0 then cuG f a o z k (l + 1) else
    mkG f (cuG f a o z k (l + 1)).1 l (if o.testBit l then (0, 0) else (cuG f a o z k (l + 1)).2.1).1 (if o.testBit l then (0, 0) else (cuG f a o z k (l + 1)).2.1).2 (if z.testBit l then (0, 0) else (cuG f a o z k (l + 1)).2.1).1 (if z.testBit l then (0, 0) else (cuG f a o z k (l + 1)).2.1).2
/-- What a cube comes to. -/
theorem cug_spec {f : Nat} (hf : IsF f) (o z : Nat) : ∀ (k l : Nat) (a : Ab), Hale a → l + k = a.n →
    Hale (cuG f a o z k l).1 ∧ Ext a (cuG f a o z k l).1 ∧ ((cuG f a o z k l).2.2 = 0 → Gu f (cuG f a o z k l).1 (cuG f a o z k l).2.1 (gmd f k l (cubT o z k l))) ∧
    ((cuG f a o z k l).2.2 ≠ 0 → (cuG f a o z k l).2.2 = 6 ∧ freeP (cuG f a o z k l).1 = 0 ∧ (cuG f a o z k l).2.1 = (0, 0) ∧ freeP a < k) ∧
    cnt (cuG f a o z k l).1 + freeP (cuG f a o z k l).1 = cnt a + freeP a ∧ freeP a ≤ freeP (cuG f a o z k l).1 + k := by
  intro k
  induction k with
  | zero =>
    intro l a ha hl
    exact ⟨ha, Ext.refl a, fun _ => Gu.fin true l, fun h => absurd rfl h, rfl, Nat.le_refl _⟩
  | succ k ih =>
    intro l a ha hl
    obtain ⟨i1, i2, i3, i4, i5, i6⟩ := ih (l + 1) a ha (by omega)
    unfold cuG
    generalize cuG f a o z k (l + 1) = q at *
    obtain ⟨b, e, er⟩ := q
    simp only at i1 i2 i3 i4 i5 i6 ⊢
    by_cases he : er ≠ 0
    · rw [if_pos he]
      obtain ⟨j1, j2, j3, j4⟩ := i4 he
      exact ⟨i1, i2, fun h => absurd h he, fun _ => ⟨j1, j2, j3, by omega⟩, i5, by show freeP a ≤ freeP b + (k + 1); omega⟩
    · rw [if_neg he]
      have he0 : er = 0 := by omega
      have hu := i3 he0
      have hw : Gw f b.n (gmd f k (l + 1) (cubT o z k (l + 1))) (l + 1) := gmd_wt hf k (l + 1) _ (by rw [i2.n]; omega)
      have half : ∀ c : Bool, Gu f b (if c then (0, 0) else e) (if c then .nul else gmd f k (l + 1) (cubT o z k (l + 1))) ∧ Gw f b.n (if c then .nul else gmd f k (l + 1) (cubT o z k (l + 1))) (l + 1) := fun c => by
        cases c
        · exact ⟨hu, hw⟩
        · exact ⟨.zero, trivial⟩
      have hm := gmakes hf i1 (show l < b.n by rw [i2.n]; omega) (half (o.testBit l)).1 (half (o.testBit l)).2 (half (z.testBit l)).1 (half (z.testBit l)).2
      rw [← cub_tree (n := a.n) hf (by omega)] at hm
      generalize mkG f b l (if o.testBit l then (0, 0) else e).1 (if o.testBit l then (0, 0) else e).2 (if z.testBit l then (0, 0) else e).1 (if z.testBit l then (0, 0) else e).2 = y at hm ⊢
      obtain ⟨d, e', er'⟩ := y
      simp only at hm ⊢
      cases hm with
      | yes rd => exact ⟨i1, i2, fun _ => rd, fun h => absurd rfl h, i5, by omega⟩
      | new gd xd rd _ _ _ _ _ hfr hcn => exact ⟨gd, i2.trans xd, fun _ => rd, fun h => absurd rfl h, by omega, by omega⟩
      | full h0 h1 h2 => exact ⟨i1, i2, (fun h => by cases h), fun _ => ⟨rfl, h0, rfl, by omega⟩, i5, by omega⟩
end Go.Proofs.YtacijileknkpnaaDoor
