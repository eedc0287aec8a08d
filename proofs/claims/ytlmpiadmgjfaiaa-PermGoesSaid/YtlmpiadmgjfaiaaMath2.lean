/- Ranks of permutations, and the next one in order: plain mathematics; no statement of the seat. -/
import Derived.Test.YtlmpiadmgjfaiaaMath
namespace PermMath

def fac : Nat → Nat
  | 0 => 1
  | n + 1 => (n + 1) * fac n
theorem fac_pos (n : Nat) : 0 < fac n := by
  induction n with
  | zero => decide
  | succ n ih => exact Nat.mul_pos (by omega) ih
theorem fac_le {m n : Nat} (h : m ≤ n) : fac m ≤ fac n := by
  induction h with
  | refl => exact Nat.le_refl _
  | step _ ih => exact Nat.le_trans ih (Nat.le_mul_of_pos_left _ (by omega))
theorem fac_16 : fac 16 = 20922789888000 := by decide
theorem fac_small {n : Nat} (h : n ≤ 16) : fac n ≤ 20922789888000 := by rw [← fac_16]; exact fac_le h

def rk : List Int → Nat
  | [] => 0
  | x :: t => t.countP (· < x) * fac t.length + rk t
theorem rk_lt (l : List Int) : rk l < fac l.length := by
  induction l with
  | nil => decide
  | cons x t ih =>
    have h := List.countP_le_length (p := (· < x)) (l := t)
    simp only [rk, List.length_cons, fac]
    have h2 := Nat.mul_le_mul_right (fac t.length) h
    rw [Nat.add_mul]
    omega

/-- The row of a rank, out of the numbers that are left. -/
def un : Nat → List Int → Nat → List Int
  | 0, _, _ => []
  | m + 1, left, r => left.getD (r / fac m) 0 :: un m (left.eraseIdx (r / fac m)) (r % fac m)
theorem quo_lt {m r : Nat} (h : r < fac (m + 1)) : r / fac m < m + 1 := by
  rw [Nat.div_lt_iff_lt_mul (fac_pos m)]
  exact h
theorem un_len (m : Nat) (left : List Int) (r : Nat) : (un m left r).length = m := by
  induction m generalizing left r with
  | zero => rfl
  | succ m ih => simp [un, ih]
theorem perm_eraseIdx {left : List Int} {k : Nat} (h : k < left.length) : (left.getD k 0 :: left.eraseIdx k).Perm left := by
  have e : left.getD k 0 = left[k] := by simp [List.getD_eq_getElem?_getD, List.getElem?_eq_getElem h]
  rw [e, List.eraseIdx_eq_take_drop_succ]
  have h1 : left = left.take k ++ left[k] :: left.drop (k + 1) := by
    rw [← List.drop_eq_getElem_cons h, List.take_append_drop]
  exact List.perm_middle.symm.trans (List.Perm.of_eq h1.symm)
theorem un_perm {m : Nat} {left : List Int} {r : Nat} (hl : left.length = m) (hr : r < fac m) : (un m left r).Perm left := by
  induction m generalizing left r with
  | zero => rw [List.eq_nil_of_length_eq_zero hl]; exact List.Perm.refl _
  | succ m ih =>
    have hk := quo_lt hr
    have hk' : r / fac m < left.length := by omega
    refine ((ih ?_ (Nat.mod_lt _ (fac_pos m))).cons _).trans (perm_eraseIdx hk')
    rw [List.length_eraseIdx, if_pos hk']
    omega
theorem inc_erase {left : List Int} (h : left.Pairwise (· < ·)) (k : Nat) : (left.eraseIdx k).Pairwise (· < ·) := h.sublist (List.eraseIdx_sublist ..)
/-- How many of a rising row are less than its k-th. -/
theorem count_inc {left : List Int} (h : left.Pairwise (· < ·)) {k : Nat} (hk : k < left.length) : (left.eraseIdx k).countP (· < left.getD k 0) = k := by
  have e : left.getD k 0 = left[k] := by simp [List.getD_eq_getElem?_getD, List.getElem?_eq_getElem hk]
  rw [e, List.eraseIdx_eq_take_drop_succ, List.countP_append]
  have h1 : (left.take k).countP (· < left[k]) = (left.take k).length := by
    rw [List.countP_eq_length]
    intro x hx
    obtain ⟨i, hi⟩ := List.getElem?_of_mem hx
    rw [List.getElem?_take] at hi
    split at hi
    · rename_i hik
      obtain ⟨hl, rfl⟩ := List.getElem?_eq_some_iff.1 hi
      exact decide_eq_true (List.pairwise_iff_getElem.1 h i k hl hk hik)
    · cases hi
  have h2 : (left.drop (k + 1)).countP (· < left[k]) = 0 := by
    rw [List.countP_eq_zero]
    intro x hx
    obtain ⟨i, hi⟩ := List.getElem?_of_mem hx
    rw [List.getElem?_drop] at hi
    obtain ⟨hl, rfl⟩ := List.getElem?_eq_some_iff.1 hi
    have := List.pairwise_iff_getElem.1 h k (k + 1 + i) hk hl (by omega)
    simp only [decide_eq_true_eq]
    omega
  rw [h1, h2, List.length_take]
  omega
theorem rk_un {m : Nat} {left : List Int} {r : Nat} (hl : left.length = m) (hi : left.Pairwise (· < ·)) (hr : r < fac m) : rk (un m left r) = r := by
  induction m generalizing left r with
  | zero =>
    have : r = 0 := by simp only [fac] at hr; omega
    subst this
    rfl
  | succ m ih =>
    have hk := quo_lt hr
    have hk' : r / fac m < left.length := by omega
    have hl' : (left.eraseIdx (r / fac m)).length = m := by rw [List.length_eraseIdx, if_pos hk']; omega
    have hm := Nat.mod_lt r (fac_pos m)
    have h1 := ih hl' (inc_erase hi _) hm
    have h2 := un_perm hl' hm
    simp only [un, rk, h1, un_len]
    rw [h2.countP_eq, count_inc hi hk']
    exact Nat.div_add_mod' r (fac m)
theorem un_rk {m : Nat} {left p : List Int} (hi : left.Pairwise (· < ·)) (hp : p.Perm left) (hl : left.length = m) : un m left (rk p) = p := by
  induction m generalizing left p with
  | zero =>
    have h1 := hp.length_eq
    rw [List.eq_nil_of_length_eq_zero (show p.length = 0 by omega)]
    rfl
  | succ m ih =>
    cases p with
    | nil => have := hp.length_eq; simp at this; omega
    | cons x t =>
      have hlen : t.length = m := by have := hp.length_eq; simp at this; omega
      have hx : x ∈ left := hp.mem_iff.1 (by simp)
      obtain ⟨j, hj⟩ := List.getElem?_of_mem hx
      obtain ⟨hjl, hje⟩ := List.getElem?_eq_some_iff.1 hj
      have hg : left.getD j 0 = x := by simp [List.getD_eq_getElem?_getD, hj]
      have ht : t.Perm (left.eraseIdx j) := by
        have := perm_eraseIdx hjl
        rw [hg] at this
        exact (List.perm_cons x).1 (hp.trans this.symm)
      have hc : t.countP (· < x) = j := by rw [ht.countP_eq, ← hg]; exact count_inc hi hjl
      have hr := rk_lt t
      rw [hlen] at hr
      have hq : rk (x :: t) / fac m = j := by
        simp only [rk, hc, hlen]
        rw [Nat.mul_comm, Nat.mul_add_div (fac_pos m), Nat.div_eq_of_lt hr, Nat.add_zero]
      have hm : rk (x :: t) % fac m = rk t := by
        simp only [rk, hc, hlen]
        rw [Nat.mul_comm, Nat.mul_add_mod, Nat.mod_eq_of_lt hr]
      simp only [un, hq, hm, hg]
      rw [ih (inc_erase hi j) ht (by rw [List.length_eraseIdx, if_pos hjl]; omega)]

theorem rk_inc {l : List Int} (h : l.Pairwise (· < ·)) : rk l = 0 := by
  induction h with
  | nil => rfl
  | @cons a l h _ ih =>
    have : l.countP (· < a) = 0 := List.countP_eq_zero.2 (fun b hb => by have := h b hb; simp only [decide_eq_true_eq]; omega)
    simp only [rk, ih, this]
    omega
theorem rk_dec {l : List Int} (h : l.Pairwise (· > ·)) : rk l + 1 = fac l.length := by
  induction h with
  | nil => rfl
  | @cons a l h _ ih =>
    have : l.countP (· < a) = l.length := List.countP_eq_length.2 (fun b hb => by have := h b hb; simp only [decide_eq_true_eq]; omega)
    simp only [rk, this, List.length_cons, fac, Nat.add_mul]
    omega
theorem rk_pre (a : List Int) {l l' : List Int} (hp : l.Perm l') (h : rk l' = rk l + 1) : rk (a ++ l') = rk (a ++ l) + 1 := by
  induction a with
  | nil => exact h
  | cons x t ih =>
    have h1 := ((hp.append_left t).countP_eq (· < x))
    have h2 := (hp.append_left t).length_eq
    simp only [List.cons_append, rk, ih, h1, h2]
    omega

/-- The next one in order. -/
def nxt (a : List Int) (y : Int) (n : Nat) : List Int := a ++ y :: (rng n).filter fun z => !(a ++ [y]).contains z
theorem nxt_perm {l r : List Int} (hl : l.Nodup) (hr : r.Nodup) (hs : ∀ x ∈ l, x ∈ r) : (l ++ r.filter fun z => !l.contains z).Perm r := by
  have h1 : (r.filter fun z => l.contains z).Perm l := by
    rw [List.perm_ext_iff_of_nodup (hr.filter _) hl]
    intro x
    rw [List.mem_filter]
    constructor
    · intro h; simpa using h.2
    · intro h; exact ⟨hs x h, by simpa using h⟩
  refine (h1.symm.append_right _).trans ?_
  exact List.filter_append_perm (fun z => l.contains z) r
/-- What stands ahead stays, the last that is less than what stands behind it gives way to the least greater one behind, the others rise: it has the next rank. -/
theorem rk_nxt {a d : List Int} {x y : Int} (h : Rt (a ++ x :: d)) (hd : d.Pairwise (· > ·)) (hy : y ∈ d) (hxy : x < y) (hmin : ∀ z ∈ d, x < z → y ≤ z) :
    Rt (nxt a y (a ++ x :: d).length) ∧ rk (nxt a y (a ++ x :: d).length) = rk (a ++ x :: d) + 1 := by
  have hnd := h.nodup
  have hnd' := hnd
  rw [List.nodup_append] at hnd
  obtain ⟨hna, hnx, hdis⟩ := hnd
  rw [List.nodup_cons] at hnx
  have hl : (a ++ [y]).Nodup := by
    rw [List.nodup_append]
    refine ⟨hna, by simp, fun u hu v hv => ?_⟩
    rw [List.mem_singleton] at hv
    subst hv
    exact hdis u hu v (by simp [hy])
  have hs : ∀ z ∈ a ++ [y], z ∈ rng (a ++ x :: d).length := by
    intro z hz
    refine h.2.mem_iff.1 ?_
    rw [List.mem_append, List.mem_singleton] at hz
    rcases hz with hz | rfl
    · simp [hz]
    · simp [hy]
  have hp := nxt_perm hl (rng_nodup _) hs
  have he : (a ++ [y]) ++ ((rng (a ++ x :: d).length).filter fun z => !(a ++ [y]).contains z) = nxt a y (a ++ x :: d).length := by simp [nxt]
  rw [he] at hp
  have hlen : (nxt a y (a ++ x :: d).length).length = (a ++ x :: d).length := by rw [hp.length_eq, rng_len]
  refine ⟨⟨by rw [hlen]; exact h.1, by rw [hlen]; exact hp⟩, ?_⟩
  have hpp := h.2.trans hp.symm
  have hinc : ((rng (a ++ x :: d).length).filter fun z => !(a ++ [y]).contains z).Pairwise (· < ·) := (rng_inc _).filter _
  unfold nxt at hpp ⊢
  generalize ((rng (a ++ x :: d).length).filter fun z => !(a ++ [y]).contains z) = s at *
  rw [List.perm_append_left_iff] at hpp
  refine rk_pre a hpp ?_
  have hlen2 : d.length = s.length := by have := hpp.length_eq; simpa using this
  have hc : s.countP (· < y) = d.countP (· < x) + 1 := by
    have e1 := hpp.countP_eq (· < y)
    rw [List.countP_cons, List.countP_cons] at e1
    simp only [decide_eq_true_eq, hxy, if_true, Int.lt_irrefl, if_false, Nat.add_zero] at e1
    rw [← e1]
    congr 1
    apply List.countP_congr
    intro z hz
    simp only [decide_eq_true_eq]
    constructor
    · intro h1
      rcases Int.lt_trichotomy z x with h2 | h2 | h2
      · exact h2
      · subst h2; exact absurd hz hnx.1
      · have := hmin z hz h2; omega
    · omega
  have h3 := rk_dec hd
  simp only [rk, hc, rk_inc hinc, ← hlen2, Nat.add_mul]
  omega
end PermMath
