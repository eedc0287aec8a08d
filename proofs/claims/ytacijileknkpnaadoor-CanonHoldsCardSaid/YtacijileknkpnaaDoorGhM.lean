/- What an edge means at an assignment, on trees: level by level, and node by node; nothing of the program. -/
import Derived.Test.YtacijileknkpnaaDoorKt
namespace StoreMath
open ArenaMath IndexMath MarkMath Go.Proofs.YtacijileknkpnaaDoor.Nd.NodeMath Go.Proofs.YtacijileknkpnaaDoor

/-- No 1 at the levels from one to the one before another. -/
def Zs (x l m : Nat) : Prop := ∀ j, l ≤ j → j < m → x.testBit j = false
noncomputable def zsB (x l m : Nat) : Bool := @decide (Zs x l m) (Classical.propDecidable _)
theorem zsB_iff {x l m : Nat} : zsB x l m = true ↔ Zs x l m := @decide_eq_true_iff _ (Classical.propDecidable _)
theorem zsB_no {x l m : Nat} : zsB x l m = false ↔ ¬ Zs x l m := by
  rw [← zsB_iff]; cases zsB x l m <;> simp
/-- Of the levels that are left out, the first one that means 0 alone. -/
def kepG (f k l m : Nat) : Nat := if f = 2 ∨ f = 4 then l else if f = 5 then max k l else m
/-- At an assignment. -/
noncomputable def hoG (f n x : Nat) : Gt → Nat → Bool
  | .nul, _ => false
  | .one k, l => zsB x (kepG f k l n) n
  | .node k t b lo hi, l => zsB x (kepG f k l t) t && (if zsB x (if f = 3 then t else b) (b + 1) then hoG f n x lo (b + 1) else hoG f n x hi (b + 1))
/-- Levels go downwards. -/
def Lv (n : Nat) : Gt → Nat → Prop
  | .nul, _ => True
  | .one _, _ => True
  | .node _ t b lo hi, l => l ≤ t ∧ t ≤ b ∧ b < n ∧ Lv n lo (b + 1) ∧ Lv n hi (b + 1)
section
variable {f n x l m k t b : Nat} {y lo hi : Gt}
theorem zs_none (h : m ≤ l) : Zs x l m := fun j h1 h2 => by omega
theorem zsB_none (h : m ≤ l) : zsB x l m = true := zsB_iff.2 (zs_none h)
theorem zsB_first (h : l < m) : zsB x l m = (!x.testBit l && zsB x (l + 1) m) := by
  rw [Bool.eq_iff_iff, Bool.and_eq_true, zsB_iff, zsB_iff, Bool.not_eq_true']
  constructor
  · exact fun h' => ⟨h' l (Nat.le_refl _) h, fun j h1 h2 => h' j (by omega) h2⟩
  · rintro ⟨h1, h2⟩ j h3 h4
    by_cases e : j = l
    · rw [e]; exact h1
    · exact h2 j (by omega) h4
theorem zsB_last (h : l ≤ m) : zsB x l (m + 1) = (zsB x l m && !x.testBit m) := by
  rw [Bool.eq_iff_iff, Bool.and_eq_true, zsB_iff, zsB_iff, Bool.not_eq_true']
  constructor
  · exact fun h' => ⟨fun j h1 h2 => h' j h1 (by omega), h' m h (by omega)⟩
  · rintro ⟨h1, h2⟩ j h3 h4
    by_cases e : j = m
    · rw [e]; exact h2
    · exact h1 j h3 (by omega)
theorem zsB_one : zsB x l (l + 1) = !x.testBit l := by rw [zsB_last (Nat.le_refl _), zsB_none (Nat.le_refl _), Bool.true_and]
/-- A level is left out: it plays no part, or is 0. -/
theorem kep_step (h : l < m) (g : Bool) : (zsB x (kepG f k l m) m && g) = (!(decide (f = 2 ∨ f = 4 ∨ f = 5 ∧ k ≤ l) && x.testBit l) && (zsB x (kepG f k (l + 1) m) m && g)) := by
  unfold kepG
  by_cases h1 : f = 2 ∨ f = 4
  · rw [if_pos h1, if_pos h1, decide_eq_true (by omega), zsB_first h, Bool.true_and, Bool.and_assoc]
  rw [if_neg h1, if_neg h1]
  by_cases h5 : f = 5
  · rw [if_pos h5, if_pos h5]
    by_cases hk : k ≤ l
    · rw [decide_eq_true (by omega), show max k l = l by omega, show max k (l + 1) = l + 1 by omega, zsB_first h, Bool.true_and, Bool.and_assoc]
    · rw [decide_eq_false (by omega), show max k l = k by omega, show max k (l + 1) = k by omega, Bool.false_and, Bool.not_false, Bool.true_and]
  · rw [if_neg h5, if_neg h5, decide_eq_false (by omega), Bool.false_and, Bool.not_false, Bool.true_and]
theorem ho_one (h : l < n) : hoG f n x (.one k) l = (!(decide (f = 2 ∨ f = 4 ∨ f = 5 ∧ k ≤ l) && x.testBit l) && hoG f n x (.one k) (l + 1)) := by
  have := kep_step (f := f) (k := k) (x := x) h true
  rw [Bool.and_true, Bool.and_true] at this
  exact this
theorem ho_off (h : l < t) : hoG f n x (.node k t b lo hi) l = (!(decide (f = 2 ∨ f = 4 ∨ f = 5 ∧ k ≤ l) && x.testBit l) && hoG f n x (.node k t b lo hi) (l + 1)) := kep_step h _
theorem ho_end (h : n ≤ l) : hoG f n x (.one k) l = true := by
  refine zsB_none ?_
  unfold kepG
  split
  · exact h
  · split
    · omega
    · exact Nat.le_refl _
theorem kep_le (h : m ≤ l) : m ≤ kepG f k l m := by
  unfold kepG
  split
  · exact h
  · split
    · omega
    · exact Nat.le_refl _
/-- At a node's level. -/
theorem ho_at (h : t ≤ l) : hoG f n x (.node k t b lo hi) l = if zsB x (if f = 3 then t else b) (b + 1) then hoG f n x lo (b + 1) else hoG f n x hi (b + 1) := by
  show (zsB x (kepG f k l t) t && _) = _
  rw [zsB_none (kep_le h), Bool.true_and]
end
/-- Of an edge that leads. -/
theorem gu_lv {f : Nat} {a : Ab} (ha : Hale a) {e : Nat × Nat} {y : Gt} (h : Gu f a e y) : ∀ {l : Nat}, a.leads f e.1 e.2 (l : Int) = true → Lv a.n y l := by
  induction h with
  | zero => intro l _; exact trivial
  | one => intro l _; exact trivial
  | @node k u r x y h1 h2 _ _ ih1 ih2 =>
    intro l hl
    obtain ⟨p1, p2, p3, p4, -⟩ := gfits_parts (ha.sound u r h1) h2
    refine ⟨?_, p1, p2, ih1 p3, ih2 p4⟩
    rcases (gleads_iff.1 hl).2 with h | ⟨q, g1, _, g3, _⟩
    · have h' : u < 2 := h
      rw [node_low h'] at h1; cases h1
    · have g1' : nodeOf a.sl u = some q := g1
      rw [h1] at g1'
      injection g1' with g1'
      subst g1'
      omega
/-- A mask's bits. -/
theorem mask_bit {l m j : Nat} (h : l ≤ m) : (2 ^ m - 2 ^ l).testBit j = (decide (l ≤ j) && decide (j < m)) := by
  obtain ⟨d, rfl⟩ : ∃ d, m = l + d := ⟨m - l, by omega⟩
  have e : 2 ^ (l + d) - 2 ^ l = 2 ^ l * (2 ^ d - 1) := by rw [Nat.pow_add, Nat.mul_sub, Nat.mul_one]
  rw [e, Nat.testBit_two_pow_mul, Nat.testBit_two_pow_sub_one]
  by_cases h1 : l ≤ j
  · rw [decide_eq_true h1, Bool.true_and, Bool.true_and, Bool.eq_iff_iff, decide_eq_true_eq, decide_eq_true_eq]; omega
  · rw [decide_eq_false h1, Bool.false_and, Bool.false_and]
theorem mask_and {x l m : Nat} (h : l ≤ m) : x &&& (2 ^ m - 2 ^ l) = 0 ↔ Zs x l m := by
  constructor
  · intro e j h1 h2
    have := congrArg (fun z => z.testBit j) e
    simp only [Nat.testBit_and, mask_bit h, Nat.zero_testBit, decide_eq_true h1, decide_eq_true h2, Bool.and_true] at this
    exact this
  · intro e
    apply Nat.eq_of_testBit_eq
    intro j
    rw [Nat.testBit_and, mask_bit h, Nat.zero_testBit]
    by_cases h1 : l ≤ j
    · by_cases h2 : j < m
      · rw [e j h1 h2, Bool.false_and]
      · rw [decide_eq_false h2, Bool.and_false, Bool.and_false]
    · rw [decide_eq_false h1, Bool.false_and, Bool.and_false]
theorem mask_lt {l m : Nat} (hm : m ≤ 16) : 2 ^ m - 2 ^ l < 65536 := by
  have h1 : 2 ^ m ≤ 2 ^ 16 := Nat.pow_le_pow_right (by omega) hm
  have h2 : 0 < 2 ^ l := Nat.two_pow_pos l
  omega
end StoreMath
