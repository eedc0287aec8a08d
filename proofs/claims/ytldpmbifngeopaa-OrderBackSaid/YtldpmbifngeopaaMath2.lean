/- Assignments by levels, and back; the levels of variables; a swap's effect on the way back: plain mathematics, of no program; no statement of the seat. -/
import Derived.Test.YtldpmbifngeopaaMath
namespace PermMath

/-- What a variable has in an assignment. -/
def vl (x : Nat) (v : Int) : Nat := x / 2 ^ v.toNat % 2
theorem vl_bit (x : Nat) (v : Int) : vl x v = (x.testBit v.toNat).toNat := by
  unfold vl
  rw [Nat.testBit_eq_decide_div_mod_eq]
  rcases Nat.mod_two_eq_zero_or_one (x / 2 ^ v.toNat) with h | h <;> simp [h]
theorem vl_lt (x : Nat) (v : Int) : vl x v < 2 := Nat.mod_lt _ (by decide)

/-- By levels. -/
def dn (p : List Int) (x : Nat) : Nat := p.foldl (fun y v => 2 * y + vl x v) 0
theorem dn_nil (x : Nat) : dn [] x = 0 := rfl
theorem dn_snoc (p : List Int) (v : Int) (x : Nat) : dn (p ++ [v]) x = 2 * dn p x + vl x v := by simp [dn]
theorem snoc_ind {C : List Int → Prop} (h0 : C []) (h1 : ∀ l v, C l → C (l ++ [v])) : ∀ l, C l := by
  intro l
  have : ∀ n, ∀ l : List Int, l.length = n → C l := by
    intro n
    induction n with
    | zero => intro l h; rw [List.eq_nil_of_length_eq_zero h]; exact h0
    | succ n ih =>
      intro l h
      have hne : l ≠ [] := by intro e; subst e; simp at h
      rw [← List.dropLast_concat_getLast hne]
      exact h1 _ _ (ih _ (by rw [List.length_dropLast]; omega))
  exact this _ l rfl
theorem dn_lt (p : List Int) (x : Nat) : dn p x < 2 ^ p.length := by
  induction p using snoc_ind with
  | h0 => simp [dn_nil]
  | h1 l v ih =>
    rw [dn_snoc, List.length_append, List.length_singleton, Nat.pow_succ]
    have := vl_lt x v
    omega
theorem dn_bit (p : List Int) (x : Nat) : ∀ j, j < p.length → (dn p x).testBit j = x.testBit (p.getD (p.length - 1 - j) 0).toNat := by
  induction p using snoc_ind with
  | h0 => intro j h; simp at h
  | h1 l v ih =>
    intro j hj
    rw [List.length_append, List.length_singleton] at hj ⊢
    rw [dn_snoc]
    cases j with
    | zero =>
      have h1 : (l ++ [v]).getD (l.length + 1 - 1 - 0) 0 = v := by simp
      rw [h1, Nat.testBit_zero, vl_bit]
      cases hb : x.testBit v.toNat <;> simp [Nat.add_mod]
    | succ j =>
      have h2 : (2 * dn l x + vl x v) / 2 = dn l x := by have := vl_lt x v; omega
      rw [Nat.testBit_succ, h2, ih j (by omega)]
      have h3 : (l ++ [v]).getD (l.length + 1 - 1 - (j + 1)) 0 = l.getD (l.length - 1 - j) 0 := by
        rw [show l.length + 1 - 1 - (j + 1) = l.length - 1 - j by omega]
        rw [List.getD_eq_getElem?_getD, List.getD_eq_getElem?_getD, List.getElem?_append_left (by omega)]
      rw [h3]

/-- One bit set that wasn't. -/
theorem or_pow {a b : Nat} (h : a.testBit b = false) : a ||| 2 ^ b = a + 2 ^ b := by
  have e1 : a % 2 ^ (b + 1) = a % 2 ^ b := by
    rw [Nat.testBit_eq_decide_div_mod_eq] at h
    have h2 : a / 2 ^ b % 2 = 0 := by
      rcases Nat.mod_two_eq_zero_or_one (a / 2 ^ b) with h3 | h3
      · exact h3
      · simp [h3] at h
    rw [Nat.pow_succ, Nat.mod_mul, h2]
    omega
  have hl : a % 2 ^ b < 2 ^ b := Nat.mod_lt _ (Nat.two_pow_pos b)
  have e2 : a = 2 ^ (b + 1) * (a / 2 ^ (b + 1)) + a % 2 ^ b := by rw [← e1]; exact (Nat.div_add_mod a (2 ^ (b + 1))).symm
  have hp := Nat.pow_succ (n := 2) (m := b)
  generalize a / 2 ^ (b + 1) = q at e2
  generalize a % 2 ^ b = l at hl e2
  have k1 := Nat.two_pow_add_eq_or_of_lt (i := b + 1) (b := l) (by omega) q
  have k2 := Nat.two_pow_add_eq_or_of_lt (i := b + 1) (b := 2 ^ b + l) (by omega) q
  have k3 := Nat.two_pow_add_eq_or_of_lt (i := b) (b := l) hl 1
  rw [Nat.mul_one] at k3
  have : a + 2 ^ b = 2 ^ (b + 1) * q + (2 ^ b + l) := by omega
  rw [this, k2, k3, e2, k1, Nat.or_assoc, Nat.or_comm l]

/-- Back. -/
def upk (p : List Int) (n y : Nat) : Nat → Nat
  | 0 => 0
  | k + 1 => upk p n y k ||| (y / 2 ^ (n - 1 - k) % 2) * 2 ^ (p.getD k 0).toNat
def up (p : List Int) (y : Nat) : Nat := upk p p.length y p.length
theorem bit_mul (t q b : Nat) (ht : t < 2) : (t * 2 ^ q).testBit b = (decide (b = q) && decide (t = 1)) := by
  rw [Nat.testBit_mul_two_pow]
  rcases (by omega : t = 0 ∨ t = 1) with rfl | rfl
  · simp
  · by_cases h : b = q
    · subst h; simp
    · by_cases h2 : q ≤ b
      · simp [h, h2]; exact Nat.testBit_lt_two_pow (Nat.one_lt_two_pow (by omega))
      · simp [h, h2]
theorem upk_bit (p : List Int) (n y k b : Nat) : (upk p n y k).testBit b = true ↔ ∃ l, l < k ∧ (p.getD l 0).toNat = b ∧ y.testBit (n - 1 - l) = true := by
  induction k with
  | zero => simp [upk]
  | succ k ih =>
    rw [upk, Nat.testBit_or, Bool.or_eq_true, ih, bit_mul _ _ _ (Nat.mod_lt _ (by decide)), Bool.and_eq_true, decide_eq_true_eq, decide_eq_true_eq]
    constructor
    · rintro (⟨l, h1, h2, h3⟩ | ⟨h1, h2⟩)
      · exact ⟨l, by omega, h2, h3⟩
      · exact ⟨k, by omega, h1.symm, by rw [Nat.testBit_eq_decide_div_mod_eq]; simpa using h2⟩
    · rintro ⟨l, h1, h2, h3⟩
      rcases Nat.lt_or_ge l k with h | h
      · exact Or.inl ⟨l, h, h2, h3⟩
      · obtain rfl : l = k := by omega
        exact Or.inr ⟨h2.symm, by rw [Nat.testBit_eq_decide_div_mod_eq] at h3; simpa using h3⟩
theorem rt_getD {p : List Int} (h : Rt p) {l : Nat} (hl : l < p.length) : p[l]? = some (p.getD l 0) ∧ 0 ≤ p.getD l 0 ∧ p.getD l 0 < p.length := by
  have e : p[l]? = some (p.getD l 0) := by rw [List.getD_eq_getElem?_getD, List.getElem?_eq_getElem hl]; rfl
  exact ⟨e, h.at e⟩
theorem rt_inj {p : List Int} (h : Rt p) {l m : Nat} (hl : l < p.length) (hm : m < p.length) (e : (p.getD l 0).toNat = (p.getD m 0).toNat) : l = m := by
  have h1 := rt_getD h hl
  have h2 := rt_getD h hm
  have e1 := at_nodup h.nodup h1.1
  have e2 := at_nodup h.nodup h2.1
  have : p.getD l 0 = p.getD m 0 := by omega
  rw [this, e2] at e1
  omega
theorem upk_lt {p : List Int} (h : Rt p) (y : Nat) : ∀ k, k ≤ p.length → upk p p.length y k < 2 ^ p.length := by
  intro k hk
  induction k with
  | zero => exact Nat.two_pow_pos _
  | succ k ih =>
    rw [upk]
    refine Nat.or_lt_two_pow (ih (by omega)) ?_
    have h1 := rt_getD h (l := k) (by omega)
    have h2 : 2 ^ ((p.getD k 0).toNat + 1) ≤ 2 ^ p.length := Nat.pow_le_pow_right (by decide) (by omega)
    rw [Nat.pow_succ] at h2
    have h3 := Nat.mod_lt (y / 2 ^ (p.length - 1 - k)) (by decide : 0 < 2)
    have h4 := Nat.two_pow_pos (p.getD k 0).toNat
    have h5 := Nat.mul_le_mul_right (2 ^ (p.getD k 0).toNat) (by omega : y / 2 ^ (p.length - 1 - k) % 2 ≤ 1)
    omega
theorem up_lt {p : List Int} (h : Rt p) (y : Nat) : up p y < 2 ^ p.length := upk_lt h y _ (Nat.le_refl _)
theorem up_bit {p : List Int} (h : Rt p) (y : Nat) {l : Nat} (hl : l < p.length) : (up p y).testBit (p.getD l 0).toNat = y.testBit (p.length - 1 - l) := by
  rw [Bool.eq_iff_iff]
  unfold up
  rw [upk_bit]
  constructor
  · rintro ⟨m, h1, h2, h3⟩
    obtain rfl := rt_inj h h1 hl h2
    exact h3
  · intro h3
    exact ⟨l, hl, rfl, h3⟩
theorem dn_up {p : List Int} (h : Rt p) {y : Nat} (hy : y < 2 ^ p.length) : dn p (up p y) = y := by
  apply Nat.eq_of_testBit_eq
  intro j
  rcases Nat.lt_or_ge j p.length with hj | hj
  · rw [dn_bit p _ j hj, up_bit h y (by omega)]
    congr 1
    omega
  · have hp : 2 ^ p.length ≤ 2 ^ j := Nat.pow_le_pow_right (by decide) hj
    rw [Nat.testBit_lt_two_pow (Nat.lt_of_lt_of_le (dn_lt p _) hp), Nat.testBit_lt_two_pow (Nat.lt_of_lt_of_le hy hp)]
theorem up_dn {p : List Int} (h : Rt p) {x : Nat} (hx : x < 2 ^ p.length) : up p (dn p x) = x := by
  apply Nat.eq_of_testBit_eq
  intro b
  rcases Nat.lt_or_ge b p.length with hb | hb
  · obtain ⟨l, hl⟩ := List.getElem?_of_mem (h.mem.2 (⟨by omega, by omega⟩ : 0 ≤ (b : Int) ∧ (b : Int) < p.length))
    have hll := (List.getElem?_eq_some_iff.1 hl).1
    have e : p.getD l 0 = (b : Int) := by rw [List.getD_eq_getElem?_getD, hl]; rfl
    have h1 := up_bit h (dn p x) hll
    rw [e, Int.toNat_natCast] at h1
    rw [h1, dn_bit p x _ (by omega), show p.length - 1 - (p.length - 1 - l) = l by omega, e, Int.toNat_natCast]
  · have hp : 2 ^ p.length ≤ 2 ^ b := Nat.pow_le_pow_right (by decide) hb
    rw [Nat.testBit_lt_two_pow (Nat.lt_of_lt_of_le (up_lt h _) hp), Nat.testBit_lt_two_pow (Nat.lt_of_lt_of_le hx hp)]

/-- The levels of variables. -/
def lvk (q : List Int) (x : Nat) : Nat → Nat
  | 0 => 0
  | k + 1 => lvk q x k ||| (x / 2 ^ k % 2) * 2 ^ (q.getD k 0).toNat
theorem lvk_bit (q : List Int) (x k b : Nat) : (lvk q x k).testBit b = true ↔ ∃ l, l < k ∧ (q.getD l 0).toNat = b ∧ x.testBit l = true := by
  induction k with
  | zero => simp [lvk]
  | succ k ih =>
    rw [lvk, Nat.testBit_or, Bool.or_eq_true, ih, bit_mul _ _ _ (Nat.mod_lt _ (by decide)), Bool.and_eq_true, decide_eq_true_eq, decide_eq_true_eq]
    constructor
    · rintro (⟨l, h1, h2, h3⟩ | ⟨h1, h2⟩)
      · exact ⟨l, by omega, h2, h3⟩
      · exact ⟨k, by omega, h1.symm, by rw [Nat.testBit_eq_decide_div_mod_eq]; simpa using h2⟩
    · rintro ⟨l, h1, h2, h3⟩
      rcases Nat.lt_or_ge l k with h | h
      · exact Or.inl ⟨l, h, h2, h3⟩
      · obtain rfl : l = k := by omega
        exact Or.inr ⟨h2.symm, by rw [Nat.testBit_eq_decide_div_mod_eq] at h3; simpa using h3⟩
theorem lvk_lt {q : List Int} (h : Rt q) (x : Nat) : ∀ k, k ≤ q.length → lvk q x k < 65536 := by
  intro k hk
  induction k with
  | zero => exact (by decide : 0 < 65536)
  | succ k ih =>
    rw [lvk]
    refine Nat.or_lt_two_pow (n := 16) (ih (by omega)) ?_
    have h1 := rt_getD h (l := k) (by omega)
    have h16 := h.1
    have h2 : 2 ^ ((q.getD k 0).toNat + 1) ≤ 2 ^ 16 := Nat.pow_le_pow_right (by decide) (by omega)
    rw [Nat.pow_succ] at h2
    have h3 := Nat.mod_lt (x / 2 ^ k) (by decide : 0 < 2)
    have h4 := Nat.two_pow_pos (q.getD k 0).toNat
    have h5 := Nat.mul_le_mul_right (2 ^ (q.getD k 0).toNat) (by omega : x / 2 ^ k % 2 ≤ 1)
    omega
/-- The same as a sum. -/
theorem lvk_add {q : List Int} (h : Rt q) (x : Nat) {k : Nat} (hk : k < q.length) (hx : x / 2 ^ k % 2 = 1) : lvk q x (k + 1) = lvk q x k + 2 ^ (q.getD k 0).toNat := by
  rw [lvk, hx, Nat.one_mul]
  refine or_pow ?_
  cases hb : (lvk q x k).testBit (q.getD k 0).toNat with
  | false => rfl
  | true =>
    obtain ⟨l, h1, h2, _⟩ := (lvk_bit q x k _).1 hb
    have := rt_inj h (by omega : l < q.length) hk h2
    omega
theorem lvk_zero {q : List Int} {x k : Nat} (hx : x / 2 ^ k % 2 = 0) : lvk q x (k + 1) = lvk q x k := by
  rw [lvk, hx, Nat.zero_mul, Nat.or_zero]

theorem bck_getD {p : List Int} {v : Nat} (hv : v < p.length) : (bck p).getD v 0 = at_ p (v : Int) := by
  unfold bck
  rw [List.getD_eq_getElem?_getD, List.getElem?_map, rng_at hv]
  rfl
/-- Sixteen places. -/
def pad (xs : List Int) : List Int := xs ++ List.replicate (16 - xs.length) 0
theorem pad_len {xs : List Int} (h : xs.length ≤ 16) : (pad xs).length = 16 := by simp [pad]; omega
theorem pad_take (xs : List Int) : (pad xs).take xs.length = xs := by simp [pad]
theorem pad_at {xs : List Int} {k : Nat} (h : k < xs.length) : (pad xs)[k]? = xs[k]? := by unfold pad; rw [List.getElem?_append_left h]
theorem pad_set {xs : List Int} {k : Nat} (h : k < xs.length) (y : Int) : (pad xs).set k y = pad (xs.set k y) := by
  unfold pad
  rw [List.set_append, if_pos h, List.length_set]
/-- An order's numbers: how many, the variables by levels, the levels by variables. -/
def rcd (p : List Int) : List Int := (p.length : Int) :: (pad p ++ pad (bck p))
theorem rcd_len {p : List Int} (h : p.length ≤ 16) : (rcd p).length = 33 := by
  simp only [rcd, List.length_cons, List.length_append, pad_len h, pad_len (xs := bck p) (by rw [bck_len]; exact h)]
theorem rcd_inj {p q : List Int} (hp : p.length ≤ 16) (hq : q.length ≤ 16) : rcd p = rcd q ↔ p = q := by
  constructor
  · intro h
    unfold rcd at h
    injection h with h1 h2
    have hl : p.length = q.length := by omega
    have h3 := List.append_inj_left h2 (by rw [pad_len hp, pad_len hq])
    rw [← pad_take p, ← pad_take q, h3, hl]
  · rintro rfl; rfl
theorem rcd_zero (p : List Int) : (rcd p)[0]? = some (p.length : Int) := rfl
theorem rcd_var {p : List Int} {l : Nat} (h : l < p.length) : (rcd p)[1 + l]? = p[l]? := by
  unfold rcd
  rw [Nat.add_comm, List.getElem?_cons_succ, List.getElem?_append_left (by unfold pad; rw [List.length_append]; omega), pad_at h]
theorem rcd_level {p : List Int} (h16 : p.length ≤ 16) {v : Nat} (h : v < p.length) : (rcd p)[17 + v]? = some (at_ p (v : Int)) := by
  unfold rcd
  rw [show 17 + v = 16 + v + 1 by omega, List.getElem?_cons_succ, List.getElem?_append_right (by rw [pad_len h16]; omega), pad_len h16, show 16 + v - 16 = v by omega, pad_at (by rw [bck_len]; exact h)]
  unfold bck
  rw [List.getElem?_map, rng_at h]
  rfl
/-- What a swap does to the way back. -/
theorem bck_swp {p : List Int} (h : Rt p) {k : Nat} (hk : k + 1 < p.length) : bck (swp p k) = ((bck p).set (p.getD (k + 1) 0).toNat (k : Int)).set (p.getD k 0).toNat ((k : Int) + 1) := by
  have hs := swp_rt hk h
  have h1 := rt_getD h (l := k) (by omega)
  have h2 := rt_getD h (l := k + 1) hk
  apply List.ext_getElem?
  intro i
  by_cases hi : i < p.length
  · obtain ⟨j, hj⟩ := List.getElem?_of_mem (h.mem.2 (⟨by omega, by omega⟩ : 0 ≤ (i : Int) ∧ (i : Int) < p.length))
    have hjl := (List.getElem?_eq_some_iff.1 hj).1
    have e : p.getD j 0 = (i : Int) := by rw [List.getD_eq_getElem?_getD, hj]; rfl
    rw [List.getElem?_set, List.getElem?_set, List.length_set, bck_len]
    by_cases hjk : j = k
    · subst hjk
      have hst : (swp p j)[j + 1]? = some (i : Int) := by rw [swp_at p j (j + 1) hk, if_pos rfl, e]
      have := bck_at hs hst
      rw [Int.toNat_natCast] at this
      rw [this, if_pos (by omega), if_pos (by omega)]
      rfl
    · by_cases hjk1 : j = k + 1
      · subst hjk1
        have hst : (swp p k)[k]? = some (i : Int) := by rw [swp_at p k k hk, if_neg (by omega), if_pos rfl, e]
        have := bck_at hs hst
        rw [Int.toNat_natCast] at this
        have hne : ¬ (p.getD k 0).toNat = i := fun e2 => by
          have := rt_inj h (l := k) (m := k + 1) (by omega) hk (by omega)
          omega
        rw [this, if_neg hne, if_pos (by omega), if_pos (by omega)]
      · have hst : (swp p k)[j]? = some (i : Int) := by rw [swp_at p k j hk, if_neg hjk1, if_neg hjk, hj]
        have := bck_at hs hst
        rw [Int.toNat_natCast] at this
        have hne : ¬ (p.getD k 0).toNat = i := fun e2 => hjk (rt_inj h hjl (by omega : k < p.length) (by omega))
        have hne2 : ¬ (p.getD (k + 1) 0).toNat = i := fun e2 => hjk1 (rt_inj h hjl hk (by omega))
        rw [this, if_neg hne, if_neg hne2]
        have := bck_at h hj
        rw [Int.toNat_natCast] at this
        rw [this]
  · rw [List.getElem?_eq_none (by rw [bck_len, swp_len]; omega), List.getElem?_eq_none (by simp [bck_len]; omega)]
theorem swp_set {p : List Int} {k : Nat} : swp p k = (p.set k (p.getD (k + 1) 0)).set (k + 1) (p.getD k 0) := rfl
theorem rcd_swp {p : List Int} (h : Rt p) {k : Nat} (hk : k + 1 < p.length) :
    rcd (swp p k) = ((((rcd p).set (1 + k) (p.getD (k + 1) 0)).set (1 + (k + 1)) (p.getD k 0)).set (17 + (p.getD (k + 1) 0).toNat) (k : Int)).set (17 + (p.getD k 0).toNat) ((k : Int) + 1) := by
  have h1 := rt_getD h (l := k) (by omega)
  have h2 := rt_getD h (l := k + 1) hk
  have h16 := h.1
  have e1 : pad (swp p k) = ((pad p).set k (p.getD (k + 1) 0)).set (k + 1) (p.getD k 0) := by
    rw [swp_set, pad_set (by omega), pad_set (by rw [List.length_set]; omega)]
  have e2 : pad (bck (swp p k)) = ((pad (bck p)).set (p.getD (k + 1) 0).toNat (k : Int)).set (p.getD k 0).toNat ((k : Int) + 1) := by
    rw [bck_swp h hk, pad_set (by rw [bck_len]; omega), pad_set (by rw [List.length_set, bck_len]; omega)]
  unfold rcd
  rw [e1, e2, swp_len]
  have hlp : (pad p).length = 16 := pad_len h16
  generalize pad p = a at *
  generalize pad (bck p) = b at *
  rw [show 1 + k = k + 1 by omega, show 1 + (k + 1) = k + 1 + 1 by omega, show 17 + (p.getD (k + 1) 0).toNat = 16 + (p.getD (k + 1) 0).toNat + 1 by omega, show 17 + (p.getD k 0).toNat = 16 + (p.getD k 0).toNat + 1 by omega]
  simp only [List.set_cons_succ]
  rw [List.set_append, if_pos (by omega), List.set_append, if_pos (by rw [List.length_set]; omega), List.set_append, if_neg (by simp; omega), List.set_append, if_neg (by simp; omega)]
  simp only [List.length_set, hlp, Nat.add_sub_cancel_left]
theorem swp_twice {p : List Int} {k : Nat} (hk : k + 1 < p.length) : swp (swp p k) k = p := by
  obtain ⟨a, z, y, c, rfl, rfl⟩ := split_two hk
  rw [swp_mid, swp_mid]
end PermMath
