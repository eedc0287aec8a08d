/- Permutations as lists: plain mathematics, of no program; no statement of the seat. -/
import Derived.KernelRfl
namespace PermMath

/-- The numbers from 0 to n - 1. -/
def rng (n : Nat) : List Int := (List.range n).map Int.ofNat
theorem rng_len (n : Nat) : (rng n).length = n := by simp [rng]
theorem rng_zero : rng 0 = [] := rfl
theorem rng_succ (n : Nat) : rng (n + 1) = rng n ++ [(n : Int)] := by simp [rng, List.range_succ]
theorem mem_rng {n : Nat} {x : Int} : x ∈ rng n ↔ 0 ≤ x ∧ x < n := by
  unfold rng
  rw [List.mem_map]
  constructor
  · rintro ⟨a, ha, rfl⟩
    rw [List.mem_range] at ha
    exact ⟨Int.natCast_nonneg a, by simpa using ha⟩
  · rintro ⟨h0, h1⟩
    exact ⟨x.toNat, by rw [List.mem_range]; omega, by simp; omega⟩
theorem rng_at {n k : Nat} (h : k < n) : (rng n)[k]? = some (k : Int) := by simp [rng, h]
theorem rng_inc (n : Nat) : (rng n).Pairwise (· < ·) := by
  unfold rng
  rw [List.pairwise_map]
  exact List.pairwise_lt_range.imp (by intro a b h; simpa using h)
theorem inc_nodup {l : List Int} (h : l.Pairwise (· < ·)) : l.Nodup := h.imp (by intro a b h e; omega)
theorem rng_nodup (n : Nat) : (rng n).Nodup := inc_nodup (rng_inc n)

/-- A permutation of at most 16. -/
def Rt (xs : List Int) : Prop := xs.length ≤ 16 ∧ xs.Perm (rng xs.length)
theorem Rt.nodup {xs : List Int} (h : Rt xs) : xs.Nodup := h.2.nodup_iff.2 (rng_nodup _)
theorem Rt.mem {xs : List Int} (h : Rt xs) {x : Int} : x ∈ xs ↔ 0 ≤ x ∧ x < xs.length := h.2.mem_iff.trans mem_rng

/-- As many, all of them met: the same up to order. -/
theorem perm_of_sub {l : List Int} : ∀ {xs : List Int}, l.Nodup → (∀ a ∈ l, a ∈ xs) → xs.length ≤ l.length → l.Perm xs := by
  induction l with
  | nil =>
    intro xs _ _ h
    rw [List.eq_nil_of_length_eq_zero (Nat.le_zero.1 h)]
  | cons a t ih =>
    intro xs hn hs hl
    have ha : a ∈ xs := hs a (by simp)
    have hp : xs.Perm (a :: xs.erase a) := List.perm_cons_erase ha
    rw [List.nodup_cons] at hn
    refine ((ih hn.2 (fun b hb => ?_) ?_).cons a).trans hp.symm
    · exact (List.mem_erase_of_ne (by rintro rfl; exact hn.1 hb)).2 (hs b (by simp [hb]))
    · have h1 := hp.length_eq
      simp only [List.length_cons] at h1 hl
      omega

open Classical in
/-- Is it a permutation? -/
noncomputable def rightB (xs : List Int) : Bool := decide (Rt xs)
theorem rightB_iff {xs : List Int} : rightB xs = true ↔ Rt xs := by unfold rightB; simp
theorem rightB_no {xs : List Int} : rightB xs = false ↔ ¬ Rt xs := by unfold rightB; simp
theorem rt_of_mem {xs : List Int} (h : xs.length ≤ 16) (hm : ∀ k : Nat, k < xs.length → (k : Int) ∈ xs) : Rt xs :=
  ⟨h, (perm_of_sub (rng_nodup _) (fun a ha => by
    rw [mem_rng] at ha
    have := hm a.toNat (by omega)
    rwa [Int.toNat_of_nonneg ha.1] at this) (by rw [rng_len]; exact Nat.le_refl _)).symm⟩
theorem rt_count {xs : List Int} (h : Rt xs) {k : Nat} (hk : k < xs.length) : xs.count (k : Int) = 1 := by
  rw [h.2.count_eq]
  have h1 := List.nodup_iff_count.1 (rng_nodup xs.length) (k : Int)
  have h2 := List.count_pos_iff.2 (mem_rng.2 ⟨by omega, by exact_mod_cast hk⟩ : (k : Int) ∈ rng xs.length)
  omega

/-- Where a number stands, or -1. -/
def at_ (xs : List Int) (z : Int) : Int := if z ∈ xs then (xs.idxOf z : Int) else -1
theorem at_lt (xs : List Int) (z : Int) : at_ xs z < xs.length ∧ -1 ≤ at_ xs z := by
  unfold at_
  split
  · rename_i h
    have := List.idxOf_lt_length_of_mem h
    omega
  · omega
theorem at_mem {xs : List Int} {z : Int} (h : z ∈ xs) : at_ xs z = (xs.idxOf z : Int) := if_pos h
theorem at_not {xs : List Int} {z : Int} (h : z ∉ xs) : at_ xs z = -1 := if_neg h
theorem at_found {xs : List Int} {z : Int} {k : Nat} (hk : xs[k]? = some z) (h : z ∉ xs.take k) : at_ xs z = k := by
  have hm : z ∈ xs := List.mem_of_getElem? hk
  rw [at_mem hm]
  obtain ⟨hl, he⟩ := List.getElem?_eq_some_iff.1 hk
  have h1 : xs = xs.take k ++ z :: xs.drop (k + 1) := by
    rw [← he, ← List.drop_eq_getElem_cons hl, List.take_append_drop]
  have h2 : xs.idxOf z = k := by
    rw [h1, List.idxOf_append, if_neg h, List.idxOf_cons_self, List.length_take]
    omega
  rw [h2]
theorem at_nodup {xs : List Int} (hn : xs.Nodup) {z : Int} {k : Nat} (hk : xs[k]? = some z) : at_ xs z = k := by
  refine at_found hk (fun h => ?_)
  obtain ⟨j, hj⟩ := List.getElem?_of_mem h
  rw [List.getElem?_take] at hj
  split at hj
  · rename_i hjk
    obtain ⟨h1, e1⟩ := List.getElem?_eq_some_iff.1 hj
    obtain ⟨h2, e2⟩ := List.getElem?_eq_some_iff.1 hk
    exact (List.pairwise_iff_getElem.1 hn j k h1 h2 hjk) (e1.trans e2.symm)
  · cases hj
theorem take_snoc {xs : List Int} {k : Nat} {x : Int} (h : xs[k]? = some x) : xs.take (k + 1) = xs.take k ++ [x] := by
  obtain ⟨hl, rfl⟩ := List.getElem?_eq_some_iff.1 h
  rw [List.take_succ_eq_append_getElem hl]
theorem drop_cons {xs : List Int} {k : Nat} {x : Int} (h : xs[k]? = some x) : xs.drop k = x :: xs.drop (k + 1) := by
  obtain ⟨hl, rfl⟩ := List.getElem?_eq_some_iff.1 h
  exact List.drop_eq_getElem_cons hl

/-- One behind the other; back. -/
def thn (p q : List Int) : List Int := p.map fun x => q.getD x.toNat 0
def bck (p : List Int) : List Int := (rng p.length).map (at_ p)
theorem thn_len (p q : List Int) : (thn p q).length = p.length := by simp [thn]
theorem bck_len (p : List Int) : (bck p).length = p.length := by simp [bck, rng_len]
theorem map_getD_rng (q : List Int) : (rng q.length).map (fun x => q.getD x.toNat 0) = q := by
  apply List.ext_getElem?
  intro i
  rw [List.getElem?_map]
  by_cases h : i < q.length
  · rw [rng_at h]; simp [h]
  · rw [List.getElem?_eq_none (by rw [rng_len]; omega), List.getElem?_eq_none (by omega)]; rfl
theorem map_at_self {p : List Int} (hn : p.Nodup) : p.map (at_ p) = rng p.length := by
  apply List.ext_getElem?
  intro i
  rw [List.getElem?_map]
  by_cases h : i < p.length
  · rw [rng_at h, List.getElem?_eq_getElem h]
    simp only [Option.map_some]
    rw [at_nodup hn (List.getElem?_eq_getElem h)]
  · rw [List.getElem?_eq_none (by omega), List.getElem?_eq_none (by rw [rng_len]; omega)]; rfl
theorem Rt.thn {p q : List Int} (hp : Rt p) (hq : Rt q) (hl : p.length = q.length) : Rt (thn p q) := by
  refine ⟨by rw [thn_len]; exact hp.1, ?_⟩
  rw [thn_len]
  have h1 : (PermMath.thn p q).Perm ((rng p.length).map fun x => q.getD x.toNat 0) := hp.2.map _
  rw [hl, map_getD_rng] at h1
  rw [hl]
  exact h1.trans hq.2
theorem Rt.bck {p : List Int} (hp : Rt p) : Rt (bck p) := by
  refine ⟨by rw [bck_len]; exact hp.1, ?_⟩
  rw [bck_len]
  have h1 : (p.map (at_ p)).Perm ((rng p.length).map (at_ p)) := hp.2.map _
  rw [map_at_self hp.nodup] at h1
  exact h1.symm
theorem Rt.at {p : List Int} (h : Rt p) {k : Nat} {x : Int} (hk : p[k]? = some x) : 0 ≤ x ∧ x < p.length := h.mem.1 (List.mem_of_getElem? hk)
theorem bck_at {p : List Int} (h : Rt p) {k : Nat} {x : Int} (hk : p[k]? = some x) : (bck p)[x.toNat]? = some (k : Int) := by
  have hx := h.at hk
  unfold bck
  rw [List.getElem?_map, rng_at (by omega : x.toNat < p.length)]
  simp only [Option.map_some]
  rw [Int.toNat_of_nonneg hx.1, at_nodup h.nodup hk]
theorem thn_bck {p : List Int} (h : Rt p) : thn p (bck p) = rng p.length := by
  apply List.ext_getElem?
  intro i
  unfold thn
  rw [List.getElem?_map]
  by_cases hi : i < p.length
  · rw [rng_at hi, List.getElem?_eq_getElem hi]
    simp only [Option.map_some]
    have := bck_at h (List.getElem?_eq_getElem hi)
    rw [List.getD_eq_getElem?_getD, this]; rfl
  · rw [List.getElem?_eq_none (by omega), List.getElem?_eq_none (by rw [rng_len]; omega)]; rfl
theorem thn_at (p q : List Int) (k : Nat) : (thn p q)[k]? = (p[k]?).map fun x => q.getD x.toNat 0 := by simp [thn]
theorem thn_assoc {p q : List Int} (r : List Int) (hp : Rt p) (hl : p.length = q.length) : thn (thn p q) r = thn p (thn q r) := by
  unfold thn
  rw [List.map_map]
  apply List.map_congr_left
  intro x hx
  have h := hp.mem.1 hx
  have hxl : x.toNat < q.length := by omega
  simp [hxl]

/-- Two neighbours exchanged. -/
def swp (xs : List Int) (k : Nat) : List Int := (xs.set k (xs.getD (k + 1) 0)).set (k + 1) (xs.getD k 0)
theorem swp_len (xs : List Int) (k : Nat) : (swp xs k).length = xs.length := by simp [swp]
theorem swp_mid {a c : List Int} {z y : Int} : swp (a ++ z :: y :: c) a.length = a ++ y :: z :: c := by
  unfold swp
  have e1 : (a ++ z :: y :: c).getD (a.length + 1) 0 = y := by simp
  have e2 : (a ++ z :: y :: c).getD a.length 0 = z := by simp
  rw [e1, e2, List.set_append_right _ _ (Nat.le_refl _), List.set_append_right _ _ (by omega), Nat.sub_self, Nat.add_sub_cancel_left]
  rfl
theorem split_two {xs : List Int} {k : Nat} (h : k + 1 < xs.length) : ∃ a z y c, xs = a ++ z :: y :: c ∧ a.length = k := by
  refine ⟨xs.take k, xs[k], xs[k + 1], xs.drop (k + 2), ?_, by rw [List.length_take]; omega⟩
  rw [← List.drop_eq_getElem_cons h, ← List.drop_eq_getElem_cons (by omega), List.take_append_drop]
theorem swp_perm {xs : List Int} {k : Nat} (h : k + 1 < xs.length) : (swp xs k).Perm xs := by
  obtain ⟨a, z, y, c, rfl, rfl⟩ := split_two h
  rw [swp_mid]
  exact (List.Perm.swap z y c).append_left a
theorem swp_rt {xs : List Int} {k : Nat} (h : k + 1 < xs.length) (hr : Rt xs) : Rt (swp xs k) :=
  ⟨by rw [swp_len]; exact hr.1, by rw [swp_len]; exact (swp_perm h).trans hr.2⟩
theorem swp_at (xs : List Int) (k j : Nat) (h : k + 1 < xs.length) : (swp xs k)[j]? = if j = k + 1 then some (xs.getD k 0) else if j = k then some (xs.getD (k + 1) 0) else xs[j]? := by
  unfold swp
  rw [List.getElem?_set, List.getElem?_set]
  by_cases h1 : j = k + 1
  · subst h1; simp [h]
  · by_cases h2 : j = k
    · subst h2; simp; omega
    · rw [if_neg (by omega), if_neg (by omega), if_neg h1, if_neg h2]

end PermMath
