/- Marks: ids as bits of words; what a walk over a store marks; nothing of the program. -/
import Derived.Test.YtacijileknkpnaaDoorSMa
import Derived.Lib.TrailingZeros
namespace MarkMath
open StoreMath ArenaMath

def bitAt (ws : List Nat) (x : Nat) : Bool := ((ws[x / 64]?).getD 0).testBit (x % 64)
theorem place_put {ws : List Nat} {i j : Nat} (hj : j < 64) : bitAt ws (64 * i + j) = ((ws[i]?).getD 0).testBit j := by
  unfold bitAt
  rw [show (64 * i + j) / 64 = i by omega, show (64 * i + j) % 64 = j by omega]
def memU (ws : List Nat) (p : Nat) : List Int := ((List.range p).filter fun x => bitAt ws x).map fun x : Nat => (x : Int)
theorem memU_succ (ws : List Nat) (p : Nat) : memU ws (p + 1) = memU ws p ++ (if bitAt ws p then [(p : Int)] else []) := by
  unfold memU
  rw [List.range_succ, List.filter_append, List.map_append]
  congr 1
  by_cases h : bitAt ws p = true
  · simp [h]
  · simp [h]
theorem memU_skip {ws : List Nat} {p : Nat} : ∀ d, (∀ j, p ≤ j → j < p + d → bitAt ws j = false) → memU ws (p + d) = memU ws p
  | 0, _ => rfl
  | d + 1, h => by
    rw [show p + (d + 1) = (p + d) + 1 by omega, memU_succ, h (p + d) (by omega) (by omega)]
    simp only [Bool.false_eq_true, if_false, List.append_nil]
    exact memU_skip d (fun j h1 h2 => h j h1 (by omega))
theorem memU_to {ws : List Nat} {p q : Nat} (hq : p ≤ q) (h : ∀ j, p ≤ j → j < q → bitAt ws j = false) : memU ws q = memU ws p := by
  have := memU_skip (ws := ws) (p := p) (q - p) (fun j h1 h2 => h j h1 (by omega))
  rwa [show p + (q - p) = q by omega] at this
theorem memU_next {ws : List Nat} {p q : Nat} (hq : p ≤ q) (h : ∀ j, p ≤ j → j < q → bitAt ws j = false) (hb : bitAt ws q = true) : memU ws (q + 1) = memU ws p ++ [(q : Int)] := by
  rw [memU_succ, memU_to hq h, hb]
  rfl
theorem memU_prefix (ws : List Nat) {p q : Nat} (h : p ≤ q) : memU ws p <+: memU ws q := by
  induction q with
  | zero =>
    obtain rfl : p = 0 := by omega
    exact List.prefix_rfl
  | succ q ih =>
    rcases Nat.lt_or_ge p (q + 1) with h1 | h1
    · rw [memU_succ]
      exact (ih (by omega)).trans (List.prefix_append _ _)
    · obtain rfl : p = q + 1 := by omega
      exact List.prefix_rfl
theorem low_bits64 {x : Nat} (h0 : 0 < x) (h : x < 2 ^ 64) : x.testBit (Go.Lib.ctz 64 x) = true ∧ (∀ j, j < Go.Lib.ctz 64 x → x.testBit j = false) ∧ (∀ j, (x &&& (x - 1)).testBit j = (decide (Go.Lib.ctz 64 x < j) && x.testBit j)) ∧ Go.Lib.ctz 64 x < 64 := by
  unfold Go.Lib.ctz
  rw [if_neg (by omega)]
  obtain ⟨m, hm, hk⟩ := Go.Lib.ctzFrom_spec 64 x h0 h
  generalize Go.Lib.ctzFrom 64 x = k at *
  have hp : 0 < 2 ^ k := Nat.two_pow_pos k
  have hx1 : x - 1 = 2 ^ k * (2 * m) + (2 ^ k - 1) := by rw [hm, Nat.mul_add]; omega
  have hb : ∀ j, x.testBit j = (decide (k ≤ j) && (2 * m + 1).testBit (j - k)) := fun j => by rw [hm, Nat.testBit_two_pow_mul]
  have hb1 : ∀ j, (x - 1).testBit j = if j < k then decide (j < k) else (2 * m).testBit (j - k) := fun j => by
    rw [hx1, Nat.testBit_two_pow_mul_add _ (by omega), Nat.testBit_two_pow_sub_one]
  refine ⟨by rw [hb, Nat.sub_self, Nat.testBit_zero]; simp, fun j hj => by rw [hb, decide_eq_false (by omega)]; rfl, fun j => ?_, hk⟩
  rw [Nat.testBit_and, hb, hb1]
  rcases Nat.lt_trichotomy j k with h1 | h1 | h1
  · rw [decide_eq_false (by omega), decide_eq_false (show ¬ k < j by omega)]; simp
  · subst h1
    rw [if_neg (by omega), Nat.sub_self, decide_eq_false (show ¬ j < j by omega)]
    simp
  · obtain ⟨d, hd⟩ : ∃ d, j - k = d + 1 := ⟨j - k - 1, by omega⟩
    rw [if_neg (by omega), hd, Nat.testBit_succ, Nat.testBit_succ, show (2 * m + 1) / 2 = m by omega, show 2 * m / 2 = m by omega, decide_eq_true (show k ≤ j by omega), decide_eq_true h1]
    simp
/-- What is left of a word from bit v on. -/
def remOk (ws : List Nat) (i v rem : Nat) : Prop := ∀ j, j < 64 → rem.testBit j = (decide (v ≤ j) && bitAt ws (64 * i + j))
theorem rem_start {ws : List Nat} {i y : Nat} (h : ws[i]? = some y) : remOk ws i 0 y := by
  intro j hj
  rw [place_put hj, h]
  simp
theorem rem_zero {ws : List Nat} {i v : Nat} (h : remOk ws i v 0) (hv : v ≤ 64) : memU ws (64 * (i + 1)) = memU ws (64 * i + v) := by
  refine memU_to (by omega) (fun j h1 h2 => ?_)
  have := h (j - 64 * i) (by omega)
  rw [Nat.zero_testBit, decide_eq_true (by omega), Bool.true_and, show 64 * i + (j - 64 * i) = j by omega] at this
  exact this.symm
theorem rem_step {ws : List Nat} {i v rem k : Nat} (h : remOk ws i v rem) (h1 : rem.testBit k = true) (h2 : ∀ j, j < k → rem.testBit j = false) (hk : k < 64) : v ≤ k ∧ memU ws (64 * i + k + 1) = memU ws (64 * i + v) ++ [((64 * i + k : Nat) : Int)] := by
  have hh := h k hk
  rw [h1] at hh
  have hb : decide (v ≤ k) = true ∧ bitAt ws (64 * i + k) = true := by simpa using hh.symm
  have hv : v ≤ k := of_decide_eq_true hb.1
  refine ⟨hv, memU_next (by omega) (fun j j1 j2 => ?_) hb.2⟩
  have := h (j - 64 * i) (by omega)
  rw [h2 _ (by omega), decide_eq_true (by omega), Bool.true_and, show 64 * i + (j - 64 * i) = j by omega] at this
  exact this.symm
theorem rem_pass {ws : List Nat} {i v rem k x : Nat} (h : remOk ws i v rem) (hv : v ≤ k) (hx : ∀ j, x.testBit j = (decide (k < j) && rem.testBit j)) : remOk ws i (k + 1) x := by
  intro j hj
  rw [hx, h j hj]
  by_cases hkj : k < j
  · rw [decide_eq_true hkj, decide_eq_true (show v ≤ j by omega), decide_eq_true (show k + 1 ≤ j by omega)]; rfl
  · rw [decide_eq_false hkj, decide_eq_false (show ¬ k + 1 ≤ j by omega)]; rfl

/-- Zeros behind the words. -/
theorem bitAt_zeros (ws : List Nat) (k x : Nat) : bitAt (ws ++ List.replicate k 0) x = bitAt ws x := by
  unfold bitAt
  rcases Nat.lt_or_ge (x / 64) ws.length with h | h
  · rw [List.getElem?_append_left h]
  · rw [List.getElem?_append_right h, List.getElem?_eq_none h]
    cases e : (List.replicate k 0)[x / 64 - ws.length]? with
    | none => rfl
    | some y =>
      rw [List.getElem?_replicate] at e
      split at e
      · injection e with e; subst e; rfl
      · cases e
/-- A bit set. -/
theorem bitAt_set {ws : List Nat} {x y : Nat} (h : ws[x / 64]? = some y) (j : Nat) : bitAt (ws.set (x / 64) (y ||| 2 ^ (x % 64))) j = (bitAt ws j || decide (j = x)) := by
  unfold bitAt
  have hl := (List.getElem?_eq_some_iff.1 h).1
  rw [List.getElem?_set]
  by_cases e : x / 64 = j / 64
  · rw [if_pos e, if_pos hl]
    rw [← e, h]
    simp only [Option.getD_some, Nat.testBit_or, Nat.testBit_two_pow]
    congr 1
    rw [decide_eq_decide]
    omega
  · rw [if_neg e]
    have : decide (j = x) = false := by rw [decide_eq_false_iff_not]; rintro rfl; exact e rfl
    rw [this, Bool.or_false]

theorem filter_le {α : Type} {p q : α → Bool} (h : ∀ y, q y = true → p y = true) : ∀ l : List α, (l.filter q).length ≤ (l.filter p).length
  | [] => Nat.le_refl _
  | a :: l => by
    have ih := filter_le h l
    by_cases e : q a = true
    · rw [List.filter_cons_of_pos e, List.filter_cons_of_pos (h _ e)]; simp only [List.length_cons]; omega
    · rw [List.filter_cons_of_neg e]
      by_cases e2 : p a = true
      · rw [List.filter_cons_of_pos e2]; simp only [List.length_cons]; omega
      · rw [List.filter_cons_of_neg e2]; exact ih
/-- How many nodes aren't marked. -/
def left (sl : List (Slot Rec)) (ws : List Nat) : Nat := ((List.range sl.length).filter fun i => (nodeOf sl (i + 2)).isSome && !bitAt ws (i + 2)).length
theorem left_le {sl : List (Slot Rec)} {ws ws' : List Nat} (h : ∀ j, bitAt ws j = true → bitAt ws' j = true) : left sl ws' ≤ left sl ws := by
  unfold left
  refine filter_le ?_ _
  intro i hi
  simp only [Bool.and_eq_true, Bool.not_eq_true'] at hi ⊢
  refine ⟨hi.1, ?_⟩
  cases e : bitAt ws (i + 2) with
  | false => rfl
  | true => rw [h _ e] at hi; cases hi.2
theorem filter_lt {α : Type} {p q : α → Bool} : ∀ {l : List α} {x : α}, x ∈ l → p x = true → q x = false → (∀ y, q y = true → p y = true) → (l.filter q).length < (l.filter p).length
  | [], _, hx, _, _, _ => by cases hx
  | a :: l, x, hx, hp, hq, h => by
    rcases List.mem_cons.1 hx with rfl | hx
    · rw [List.filter_cons_of_pos hp, List.filter_cons_of_neg (by rw [hq]; decide)]
      have := filter_le h l
      simp only [List.length_cons]; omega
    · have ih := filter_lt hx hp hq h
      by_cases e : q a = true
      · rw [List.filter_cons_of_pos e, List.filter_cons_of_pos (h _ e)]; simp only [List.length_cons]; omega
      · rw [List.filter_cons_of_neg e]
        by_cases e2 : p a = true
        · rw [List.filter_cons_of_pos e2]; simp only [List.length_cons]; omega
        · rw [List.filter_cons_of_neg e2]; exact ih
theorem left_lt {sl : List (Slot Rec)} {ws ws' : List Nat} {u : Nat} {r : Rec} (hu : nodeOf sl u = some r) (h0 : bitAt ws u = false) (h : ∀ j, bitAt ws' j = (bitAt ws j || decide (j = u))) : left sl ws' < left sl ws := by
  obtain ⟨h2, h3⟩ := node_lt hu
  unfold left
  refine filter_lt (x := u - 2) (by simp; omega) ?_ ?_ ?_
  · rw [show u - 2 + 2 = u by omega, hu, h0]; rfl
  · rw [show u - 2 + 2 = u by omega, h u]; simp
  · intro y hy
    simp only [Bool.and_eq_true, Bool.not_eq_true'] at hy ⊢
    refine ⟨hy.1, ?_⟩
    have := hy.2
    rw [h] at this
    simp at this
    exact this.1

/-- What edges to these ids reach. -/
inductive Reached (sl : List (Slot Rec)) (S : Nat → Prop) : Nat → Prop
  | base {x : Nat} {r : Rec} : S x → nodeOf sl x = some r → Reached sl S x
  | lo {x : Nat} {r q : Rec} : Reached sl S x → nodeOf sl x = some r → nodeOf sl r.la = some q → Reached sl S r.la
  | hi {x : Nat} {r q : Rec} : Reached sl S x → nodeOf sl x = some r → nodeOf sl r.ha = some q → Reached sl S r.ha
theorem Reached.mono {sl : List (Slot Rec)} {S T : Nat → Prop} (h : ∀ x, S x → T x) {x : Nat} (hr : Reached sl S x) : Reached sl T x := by
  induction hr with
  | base h1 h2 => exact .base (h _ h1) h2
  | lo _ h2 h3 ih => exact .lo ih h2 h3
  | hi _ h2 h3 ih => exact .hi ih h2 h3
theorem Reached.node {sl : List (Slot Rec)} {S : Nat → Prop} {x : Nat} (h : Reached sl S x) : ∃ r, nodeOf sl x = some r := by
  cases h with
  | base _ h => exact ⟨_, h⟩
  | lo _ _ h => exact ⟨_, h⟩
  | hi _ _ h => exact ⟨_, h⟩
theorem Reached.trans {sl : List (Slot Rec)} {S T : Nat → Prop} (h : ∀ x, T x → Reached sl S x ∨ nodeOf sl x = none) {x : Nat} (hr : Reached sl T x) : Reached sl S x := by
  induction hr with
  | base h1 h2 =>
    rcases h _ h1 with h | h
    · exact h
    · rw [h] at h2; cases h2
  | lo _ h2 h3 ih => exact .lo ih h2 h3
  | hi _ h2 h3 ih => exact .hi ih h2 h3

/-- From these marks a walk from u has come to those. -/
structure Walked (sl : List (Slot Rec)) (ws : List Nat) (S : Nat → Prop) (ws' : List Nat) : Prop where
  more : ∀ j, bitAt ws j = true → bitAt ws' j = true
  here : ∀ u r, S u → nodeOf sl u = some r → bitAt ws' u = true
  new : ∀ j, bitAt ws' j = true → bitAt ws j = true ∨ Reached sl S j
  shut : ∀ j r, bitAt ws' j = true → bitAt ws j = false → nodeOf sl j = some r → (∀ q, nodeOf sl r.la = some q → bitAt ws' r.la = true) ∧ (∀ q, nodeOf sl r.ha = some q → bitAt ws' r.ha = true)
section
variable {sl : List (Slot Rec)} {ws ws1 ws2 ws3 : List Nat} {S T : Nat → Prop}
theorem Walked.none (h : ∀ u, S u → nodeOf sl u = none ∨ bitAt ws u = true) : Walked sl ws S ws :=
  ⟨fun _ h => h, fun u r hu hn => by
    rcases h u hu with h | h
    · rw [h] at hn; cases hn
    · exact h, fun _ h => .inl h, fun j r h1 h2 => by rw [h1] at h2; cases h2⟩
theorem Walked.both (h : Walked sl ws S ws1) (k : Walked sl ws1 T ws2) : Walked sl ws (fun x => S x ∨ T x) ws2 := by
  refine ⟨fun j hj => k.more j (h.more j hj), fun u r hu hn => ?_, fun j hj => ?_, fun j r h1 h2 h3 => ?_⟩
  · rcases hu with hu | hu
    · exact k.more u (h.here u r hu hn)
    · exact k.here u r hu hn
  · rcases k.new j hj with h1 | h1
    · rcases h.new j h1 with h2 | h2
      · exact .inl h2
      · exact .inr (h2.mono (fun _ h => .inl h))
    · exact .inr (h1.mono (fun _ h => .inr h))
  · cases e : bitAt ws1 j with
    | true =>
      obtain ⟨a, b⟩ := h.shut j r e h2 h3
      exact ⟨fun q hq => k.more _ (a q hq), fun q hq => k.more _ (b q hq)⟩
    | false => exact k.shut j r h1 e h3
/-- A node that wasn't marked: marked, and both of its edges followed. -/
theorem Walked.node {u : Nat} {r : Rec} (hu : nodeOf sl u = some r) (h0 : bitAt ws u = false) (h1 : ∀ j, bitAt ws1 j = (bitAt ws j || decide (j = u))) (k : Walked sl ws1 (fun x => x = r.la ∨ x = r.ha) ws2) : Walked sl ws (fun x => x = u) ws2 := by
  have hr : Reached sl (fun x => x = u) u := .base rfl hu
  refine ⟨fun j hj => k.more j (by rw [h1, hj]; rfl), fun v q hv _ => ?_, fun j hj => ?_, fun j q h2 h3 h4 => ?_⟩
  · subst hv; exact k.more _ (by rw [h1]; simp)
  · rcases k.new j hj with h2 | h2
    · rw [h1] at h2
      by_cases e : j = u
      · subst e; exact .inr hr
      · rw [decide_eq_false e, Bool.or_false] at h2; exact .inl h2
    · refine .inr (h2.trans (fun x hx => ?_))
      cases hn : nodeOf sl x with
      | none => exact .inr rfl
      | some q =>
        left
        rcases hx with rfl | rfl
        · exact .lo hr hu hn
        · exact .hi hr hu hn
  · by_cases e : j = u
    · subst e
      rw [hu] at h4
      injection h4 with h4
      subst h4
      exact ⟨fun q hq => k.here _ q (.inl rfl) hq, fun q hq => k.here _ q (.inr rfl) hq⟩
    · exact k.shut j q h2 (by rw [h1, h3, decide_eq_false e]; rfl) h4
theorem Walked.set (h : Walked sl ws S ws1) (he : ∀ x, S x ↔ T x) : Walked sl ws T ws1 :=
  ⟨h.more, fun u r hu => h.here u r ((he u).2 hu), fun j hj => (h.new j hj).imp (fun h => h) (fun h => h.mono (fun x => (he x).1)), h.shut⟩
/-- From no marks just what is reached is marked. -/
theorem Walked.all (h : Walked sl [] S ws1) (j : Nat) : bitAt ws1 j = true ↔ Reached sl S j := by
  have hz : ∀ j, bitAt [] j = false := fun j => by unfold bitAt; simp
  constructor
  · intro hj
    rcases h.new j hj with h1 | h1
    · rw [hz] at h1; cases h1
    · exact h1
  · intro hr
    induction hr with
    | base h1 h2 => exact h.here _ _ h1 h2
    | lo _ h2 h3 ih => exact (h.shut _ _ ih (hz _) h2).1 _ h3
    | hi _ h2 h3 ih => exact (h.shut _ _ ih (hz _) h2).2 _ h3
end
end MarkMath
