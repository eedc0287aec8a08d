/- Values of parts of lists, and sums word by word. -/
import Derived.Test.YtmlijikandchoaaDoorMath
namespace Go.Proofs.NatMath

theorem val_take_succ (b : Nat) (xs : List Nat) (k : Nat) : val b (xs.take (k + 1)) = val b (xs.take k) + b ^ k * xs.getD k 0 := by
  rcases Nat.lt_or_ge k xs.length with h | h
  · have e : xs.getD k 0 = xs[k] := by simp [h]
    rw [List.take_succ_eq_append_getElem h, val_snoc, List.length_take, Nat.min_eq_left (by omega), e]
  · have e : xs.getD k 0 = 0 := by simp [List.getElem?_eq_none h]
    rw [List.take_of_length_le (by omega), List.take_of_length_le h, e]
    simp
theorem val_take_all (b : Nat) (xs : List Nat) (k : Nat) (h : xs.length ≤ k) : val b (xs.take k) = val b xs := by rw [List.take_of_length_le h]
theorem take_set_same {α : Type} (xs : List α) (k : Nat) (y : α) : (xs.set k y).take k = xs.take k := by
  apply List.ext_getElem?
  intro i
  rw [List.getElem?_take, List.getElem?_take]
  split
  · rw [List.getElem?_set]; split
    · omega
    · rfl
  · rfl
theorem getD_set_same (xs : List Nat) (k y : Nat) (h : k < xs.length) : (xs.set k y).getD k 0 = y := by simp [h]
theorem dig_set {b : Nat} {xs : List Nat} (h : Dig b xs) {y : Nat} (hy : y < b) (k : Nat) : Dig b (xs.set k y) := by
  intro z hz
  rcases List.mem_or_eq_of_mem_set hz with hz | rfl
  · exact h z hz
  · exact hy
theorem dig_getD {b : Nat} {xs : List Nat} (h : Dig b xs) (hb : 0 < b) (k : Nat) : xs.getD k 0 < b := by
  rcases Nat.lt_or_ge k xs.length with hl | hl
  · have e : xs.getD k 0 = xs[k] := by simp [hl]
    rw [e]; exact dig_at h hl
  · have e : xs.getD k 0 = 0 := by simp [List.getElem?_eq_none hl]
    omega
theorem dig_replicate (b n : Nat) (hb : 0 < b) : Dig b (List.replicate n 0) := by
  intro z hz
  rw [(List.mem_replicate.1 hz).2]; exact hb

/-- one word of a sum -/
theorem add_round {xs ys zs : List Nat} {k c s c' : Nat} (hk : k < zs.length) (hv : val B64 (zs.take k) + B64 ^ k * c = val B64 (xs.take k) + val B64 (ys.take k))
    (hs : xs.getD k 0 + ys.getD k 0 + c = s + B64 * c') :
    val B64 ((zs.set k s).take (k + 1)) + B64 ^ (k + 1) * c' = val B64 (xs.take (k + 1)) + val B64 (ys.take (k + 1)) := by
  rw [val_take_succ, val_take_succ, val_take_succ, take_set_same, getD_set_same _ _ _ hk, Nat.pow_succ]
  have e : B64 ^ k * (xs.getD k 0 + ys.getD k 0 + c) = B64 ^ k * (s + B64 * c') := by rw [hs]
  simp only [Nat.mul_add] at e
  rw [Nat.mul_assoc]
  omega
theorem add_end {xs ys zs : List Nat} {n c : Nat} (hn : zs.length = n + 1) (hx : xs.length ≤ n) (hy : ys.length ≤ n)
    (hv : val B64 (zs.take n) + B64 ^ n * c = val B64 (xs.take n) + val B64 (ys.take n)) : val B64 (zs.set n c) = val B64 xs + val B64 ys := by
  have h1 := val_take_succ B64 (zs.set n c) n
  rw [take_set_same, getD_set_same _ _ _ (by omega), val_take_all _ _ _ (by simp; omega)] at h1
  rw [val_take_all _ _ _ hx, val_take_all _ _ _ hy] at hv
  omega

/-- one word of a difference: borrow c -/
theorem sub_round {xs ys zs : List Nat} {k c s c' : Nat} (hk : k < zs.length) (hv : val B64 (zs.take k) + val B64 (ys.take k) = val B64 (xs.take k) + B64 ^ k * c)
    (hs : s + ys.getD k 0 + c = xs.getD k 0 + B64 * c') :
    val B64 ((zs.set k s).take (k + 1)) + val B64 (ys.take (k + 1)) = val B64 (xs.take (k + 1)) + B64 ^ (k + 1) * c' := by
  rw [val_take_succ, val_take_succ, val_take_succ, take_set_same, getD_set_same _ _ _ hk, Nat.pow_succ]
  have e : B64 ^ k * (s + ys.getD k 0 + c) = B64 ^ k * (xs.getD k 0 + B64 * c') := by rw [hs]
  simp only [Nat.mul_add] at e
  rw [Nat.mul_assoc]
  omega
theorem sub_end {xs ys zs : List Nat} {n c : Nat} (hn : zs.length = n) (hz : Dig B64 zs) (hx : xs.length ≤ n) (hy : ys.length ≤ n) (hle : val B64 ys ≤ val B64 xs)
    (hv : val B64 (zs.take n) + val B64 (ys.take n) = val B64 (xs.take n) + B64 ^ n * c) : val B64 zs = val B64 xs - val B64 ys := by
  rw [val_take_all _ _ _ hx, val_take_all _ _ _ hy, val_take_all _ _ _ (by omega)] at hv
  have h1 := val_lt hz
  rw [hn] at h1
  rcases Nat.eq_zero_or_pos c with rfl | hc
  · omega
  · have : B64 ^ n * 1 ≤ B64 ^ n * c := Nat.mul_le_mul_left _ hc
    omega
/-- a number of at most k words -/
theorem len_of_lt {n k : Nat} (h : n < B64 ^ k) : (digs B64 n).length ≤ k := by
  rcases Nat.lt_or_ge k (digs B64 n).length with hl | hl
  · have h1 := len_le (b := B64) (digs_top B64_two n) (by omega)
    rw [digs_val B64_two] at h1
    have h2 : B64 ^ k ≤ B64 ^ ((digs B64 n).length - 1) := Nat.pow_le_pow_right (by decide) (by omega)
    omega
  · exact hl
theorem lt_of_len {n k : Nat} (h : (digs B64 n).length ≤ k) : n < B64 ^ k := by
  have h1 := val_lt (digs_dig B64_two n)
  rw [digs_val B64_two] at h1
  exact Nat.lt_of_lt_of_le h1 (Nat.pow_le_pow_right (by decide) h)
end Go.Proofs.NatMath
