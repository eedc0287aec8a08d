/- Steps between neighbours: plain mathematics; no statement of the seat. -/
import Derived.Test.YtlmpiadmgjfaiaaMath
namespace PermMath

/-- Two neighbours exchanged. -/
def swp (xs : List Int) (k : Nat) : List Int := (xs.set k (xs.getD (k + 1) 0)).set (k + 1) (xs.getD k 0)
theorem swp_len (xs : List Int) (k : Nat) : (swp xs k).length = xs.length := by simp [swp]
theorem swp_mid {a c : List Int} {z y : Int} : swp (a ++ z :: y :: c) a.length = a ++ y :: z :: c := by
  unfold swp
  have e1 : (a ++ z :: y :: c).getD (a.length + 1) 0 = y := by simp
  have e2 : (a ++ z :: y :: c).getD a.length 0 = z := by simp
  rw [e1, e2, List.set_append_right _ _ (Nat.le_refl _), List.set_append_right _ _ (by omega), Nat.sub_self, Nat.add_sub_cancel_left]
  rfl
theorem split_two {xs : List Int} {k : Nat} (h : k + 1 < xs.length) : ∃ a z y c, xs = a ++ z :: y :: c ∧ a.length = k := by
  refine ⟨xs.take k, xs[k], xs[k + 1], xs.drop (k + 2), ?_, by rw [List.length_take]; omega⟩
  rw [← List.drop_eq_getElem_cons h, ← List.drop_eq_getElem_cons (by omega), List.take_append_drop]
theorem swp_perm {xs : List Int} {k : Nat} (h : k + 1 < xs.length) : (swp xs k).Perm xs := by
  obtain ⟨a, z, y, c, rfl, rfl⟩ := split_two h
  rw [swp_mid]
  exact (List.Perm.swap z y c).append_left a
theorem swp_rt {xs : List Int} {k : Nat} (h : k + 1 < xs.length) (hr : Rt xs) : Rt (swp xs k) :=
  ⟨by rw [swp_len]; exact hr.1, by rw [swp_len]; exact (swp_perm h).trans hr.2⟩
theorem swp_at (xs : List Int) (k j : Nat) (h : k + 1 < xs.length) : (swp xs k)[j]? = if j = k + 1 then some (xs.getD k 0) else if j = k then some (xs.getD (k + 1) 0) else xs[j]? := by
  unfold swp
  rw [List.getElem?_set, List.getElem?_set]
  by_cases h1 : j = k + 1
  · subst h1; simp [h]
  · by_cases h2 : j = k
    · subst h2; simp; omega
    · rw [if_neg (by omega), if_neg (by omega), if_neg h1, if_neg h2]

/-- Bringing what stands j places above 'place' down to it: the row then, and the steps. -/
def down : Nat → Nat → List Int → List Int × List Int
  | 0, _, now => (now, [])
  | j + 1, place, now => let r := down j place (swp now (place + j)); (r.1, ((place + j : Nat) : Int) :: r.2)
theorem down_len (j place : Nat) (now : List Int) : (down j place now).1.length = now.length ∧ (down j place now).2.length = j := by
  induction j generalizing now with
  | zero => exact ⟨rfl, rfl⟩
  | succ j ih => exact ⟨by simp only [down]; rw [(ih _).1, swp_len], by simp [down, (ih _).2]⟩
/-- The steps that make a row to one that ends in these numbers, from 'place' on. -/
def stepsTo : List Int → Nat → List Int → List Int
  | [], _, _ => []
  | y :: t, place, now => (down (now.idxOf y - place) place now).2 ++ stepsTo t (place + 1) (down (now.idxOf y - place) place now).1
theorem stepsTo_len (t : List Int) (place : Nat) (now : List Int) : (stepsTo t place now).length ≤ t.length * now.length := by
  induction t generalizing place now with
  | nil => exact Nat.zero_le _
  | cons y t ih =>
    have h1 := ih (place + 1) (down (now.idxOf y - place) place now).1
    rw [(down_len _ _ _).1] at h1
    have h2 : now.idxOf y ≤ now.length := List.idxOf_le_length
    simp only [stepsTo, List.length_append, (down_len _ _ _).2, List.length_cons, Nat.add_mul, Nat.one_mul]
    omega

/-- Going by steps. -/
def going (now : List Int) (l : List Int) : List Int := l.foldl (fun x k => swp x k.toNat) now
theorem going_append (now l l' : List Int) : going now (l ++ l') = going (going now l) l' := List.foldl_append ..
theorem going_down (j place : Nat) (now : List Int) : going now (down j place now).2 = (down j place now).1 := by
  induction j generalizing now with
  | zero => rfl
  | succ j ih =>
    show going (swp now ((place + j : Nat) : Int).toNat) _ = _
    rw [Int.toNat_natCast, ih]
    rfl
theorem down_mid {a : List Int} {y : Int} (b1 b2 : List Int) : (down b1.length a.length (a ++ (b1 ++ y :: b2))).1 = a ++ y :: (b1 ++ b2) := by
  induction h : b1.length generalizing b1 b2 with
  | zero => rw [List.eq_nil_of_length_eq_zero h]; rfl
  | succ j ih =>
    obtain ⟨b, z, rfl⟩ : ∃ b z, b1 = b ++ [z] := ⟨b1.dropLast, b1.getLast (by intro e; simp [e] at h), (List.dropLast_concat_getLast _).symm⟩
    have hb : b.length = j := by simpa using h
    show (down j a.length (swp (a ++ (b ++ [z] ++ y :: b2)) (a.length + j))).1 = _
    have e : swp (a ++ (b ++ [z] ++ y :: b2)) (a.length + j) = a ++ (b ++ y :: (z :: b2)) := by
      have := swp_mid (a := a ++ b) (c := b2) (z := z) (y := y)
      rw [List.length_append, hb] at this
      simpa using this
    rw [e, ih b (z :: b2) hb]
    simp
/-- Each of the steps takes one pair away, where the number that is brought down is less than what it passes. -/
theorem inv_pre (a : List Int) {l l' : List Int} (hp : l.Perm l') {n : Nat} (h : inv l = inv l' + n) : inv (a ++ l) = inv (a ++ l') + n := by
  induction a with
  | nil => exact h
  | cons x t ih =>
    have h1 := ((hp.append_left t).countP_eq (· < x))
    simp only [List.cons_append, inv, ih, h1]
    omega
theorem inv_swap {y z : Int} (c : List Int) (h : y < z) : inv (z :: y :: c) = inv (y :: z :: c) + 1 := by
  simp only [inv, List.countP_cons, decide_eq_true_eq, if_pos h, if_neg (show ¬ z < y by omega)]
  omega
theorem inv_down {y : Int} (b1 b2 : List Int) (h : ∀ z ∈ b1, y < z) : inv (b1 ++ y :: b2) = inv (y :: (b1 ++ b2)) + b1.length := by
  induction b1 with
  | nil => rfl
  | cons z t ih =>
    have h1 := ih (fun u hu => h u (by simp [hu]))
    have hz := h z (by simp)
    have h2 := inv_swap (t ++ b2) hz
    have hp : (y :: (t ++ b2)).Perm (t ++ y :: b2) := List.perm_middle.symm
    have h3 := hp.countP_eq (· < z)
    simp only [List.cons_append, List.length_cons]
    simp only [inv] at h1 h2 ⊢
    rw [← h3]
    simp only [List.countP_cons] at h2 ⊢
    omega

/-- The steps lead there; each may be made; there are as many as pairs that stand otherwise. -/
theorem steps_all {q : List Int} (hq : q.Nodup) (t : List Int) : ∀ (a b : List Int), q = a ++ t → b.Perm t →
    going (a ++ b) (stepsTo t a.length (a ++ b)) = q ∧ (∀ k ∈ stepsTo t a.length (a ++ b), 0 ≤ k ∧ k + 1 < q.length) ∧
    (stepsTo t a.length (a ++ b)).length = inv ((a ++ b).map (at_ q)) := by
  induction t with
  | nil =>
    intro a b h hb
    have hb0 : b = [] := hb.eq_nil
    subst hb0
    refine ⟨h.symm, by simp [stepsTo], ?_⟩
    rw [← h, map_at_self hq]
    have : ∀ n, inv (rng n) = 0 := by
      intro n
      induction n with
      | zero => rfl
      | succ n ih =>
        rw [rng_succ, inv_snoc, ih, Nat.zero_add, List.countP_eq_zero]
        intro x hx
        rw [mem_rng] at hx
        simp only [decide_eq_true_eq]
        omega
    rw [this]
    rfl
  | cons y t ih =>
    intro a b h hb
    have hy : y ∈ b := hb.mem_iff.2 (by simp)
    obtain ⟨b1, b2, rfl, hy1⟩ := List.eq_append_cons_of_mem hy
    have hnd : (a ++ y :: t).Nodup := h ▸ hq
    have hya : y ∉ a := by
      intro hya
      rw [List.nodup_append] at hnd
      exact hnd.2.2 y hya y (by simp) rfl
    have hidx : (a ++ (b1 ++ y :: b2)).idxOf y = a.length + b1.length := by
      rw [List.idxOf_append, if_neg hya, List.idxOf_append, if_neg hy1, List.idxOf_cons_self]
      omega
    have hsub : (a ++ (b1 ++ y :: b2)).idxOf y - a.length = b1.length := by omega
    have hd := down_mid (a := a) (y := y) b1 b2
    have hb' : (b1 ++ b2).Perm t := by
      have := (List.perm_middle (a := y) (l₁ := b1) (l₂ := b2)).symm.trans hb
      exact (List.perm_cons y).1 this
    have hq2 : q = (a ++ [y]) ++ t := by simpa using h
    obtain ⟨h1, h2, h3⟩ := ih (a ++ [y]) (b1 ++ b2) hq2 hb'
    have ea : (a ++ [y]) ++ (b1 ++ b2) = a ++ y :: (b1 ++ b2) := by simp
    rw [ea, List.length_append, List.length_singleton] at h1 h2 h3
    simp only [stepsTo, hsub, hd]
    have hlen : q.length = a.length + (b1.length + (b2.length + 1)) := by
      rw [h, List.length_append, ← hb.length_eq]; simp
    refine ⟨?_, ?_, ?_⟩
    · rw [going_append, going_down, hd]
      exact h1
    · intro k hk
      rw [List.mem_append] at hk
      rcases hk with hk | hk
      · have : ∀ (j place : Nat) (now : List Int), ∀ k ∈ (down j place now).2, 0 ≤ k ∧ k < place + j := by
          intro j
          induction j with
          | zero => intro place now k hk; simp [down] at hk
          | succ j ih =>
            intro place now k hk
            simp only [down, List.mem_cons] at hk
            rcases hk with rfl | hk
            · omega
            · have := ih place _ k hk; omega
        have := this _ _ _ k hk
        omega
      · exact h2 k hk
    · rw [List.length_append, (down_len _ _ _).2, h3, List.map_append, List.map_append, List.map_append, List.map_cons, List.map_cons, List.map_append]
      have hgt : ∀ z ∈ b1.map (at_ q), at_ q y < z := by
        intro z hz
        obtain ⟨u, hu, rfl⟩ := List.mem_map.1 hz
        have ey : at_ q y = (a.length : Int) := at_nodup hq (by rw [h]; simp)
        have hut : u ∈ t := by
          have : u ∈ y :: t := hb.mem_iff.1 (by simp [hu])
          rw [List.mem_cons] at this
          rcases this with rfl | this
          · exact absurd hu hy1
          · exact this
        obtain ⟨j, hj⟩ := List.getElem?_of_mem hut
        have eu : at_ q u = ((a.length + 1 + j : Nat) : Int) := at_nodup hq (by
          rw [hq2, List.getElem?_append_right (by simp only [List.length_append, List.length_singleton]; omega)]
          simpa using hj)
        omega
      have hi := inv_down (b1.map (at_ q)) (b2.map (at_ q)) hgt
      have hpm : (b1.map (at_ q) ++ at_ q y :: b2.map (at_ q)).Perm (at_ q y :: (b1.map (at_ q) ++ b2.map (at_ q))) := List.perm_middle
      have := inv_pre (a.map (at_ q)) hpm hi
      rw [List.length_map] at this
      omega

/-- All steps from p to q. -/
def stp (p q : List Int) : List Int := stepsTo q 0 p
theorem stp_all {p q : List Int} (hp : Rt p) (hq : Rt q) (hl : p.length = q.length) :
    going p (stp p q) = q ∧ (∀ k ∈ stp p q, 0 ≤ k ∧ k + 1 < q.length) ∧ (stp p q).length = inv (p.map (at_ q)) := by
  have hpq : p.Perm q := by
    have h1 := hp.2
    rw [hl] at h1
    exact h1.trans hq.2.symm
  exact steps_all hq.nodup q [] p rfl hpq
theorem stp_len {p q : List Int} (hp : Rt p) (hq : Rt q) : (stp p q).length ≤ 256 := by
  have h1 := stepsTo_len q 0 p
  have h2 := Nat.mul_le_mul hq.1 hp.1
  unfold stp
  omega
/-- Where the number stands behind a step that brings it one place down. -/
theorem idx_swp {now : List Int} {y : Int} {k : Nat} (h : now.idxOf y = k + 1) (hm : y ∈ now) : (swp now k).idxOf y = k := by
  have hlt : k + 1 < now.length := by have := List.idxOf_lt_length_of_mem hm; omega
  obtain ⟨a, z, u, c, rfl, rfl⟩ := split_two hlt
  rw [swp_mid]
  have hya : y ∉ a := by
    intro hy
    rw [List.idxOf_append, if_pos hy] at h
    have := List.idxOf_lt_length_of_mem hy
    omega
  rw [List.idxOf_append, if_neg hya] at h ⊢
  by_cases hz : z = y
  · subst hz
    rw [List.idxOf_cons_self] at h
    omega
  · by_cases hu : u = y
    · subst hu; rw [List.idxOf_cons_self]; omega
    · have e : (z :: u :: c).idxOf y = c.idxOf y + 1 + 1 := by
        have hz' : (z == y) = false := by simpa using hz
        have hu' : (u == y) = false := by simpa using hu
        rw [List.idxOf_cons, hz', List.idxOf_cons, hu']
        rfl
      omega
end PermMath
