/- Numbers as bytes of seven bits: what is read of bytes, and that what is written is read. Of lists alone. -/
import Derived.Lib.VarintMem
import Derived.Lib.BitFns
namespace Go.Proofs.WireMath
open Go.Lib

/-- How many bytes at the start bear the bit 128. -/
def run : List UInt8 → Nat
  | [] => 0
  | x :: r => if 128 ≤ x.toNat then run r + 1 else 0
/-- What the lower seven bits of bytes spell. -/
def val : List UInt8 → Nat
  | [] => 0
  | x :: r => x.toNat % 128 + 128 * val r
/-- May this byte be the last one, at this place? -/
def okLast (k : Nat) (x : Nat) : Bool := if k = 9 then x == 1 else k == 0 || x != 0
/-- The number that bytes begin with: it, how many bytes it has, the error. -/
def rd (most : Nat) (l : List UInt8) : Nat × Nat × Nat :=
  if 10 ≤ run l then (0, 0, 7) else
  match l[run l]? with
  | none => (0, 0, 11)
  | some x => if okLast (run l) x.toNat = false then (0, 0, 7) else if most < val (l.take (run l + 1)) then (0, 0, 12) else (val (l.take (run l + 1)), run l + 1, 0)

theorem run_ge : ∀ (l : List UInt8) (i : Nat), (∀ j, j < i → ∃ x, l[j]? = some x ∧ 128 ≤ x.toNat) → i ≤ run l
  | l, 0, _ => Nat.zero_le _
  | [], i + 1, h => by obtain ⟨x, hx, _⟩ := h 0 (by omega); simp at hx
  | y :: r, i + 1, h => by
    obtain ⟨x, hx, hx'⟩ := h 0 (by omega)
    simp at hx
    subst hx
    have := run_ge r i (fun j hj => by have := h (j + 1) (by omega); simpa using this)
    simp only [run, hx', if_true]
    omega
theorem run_at : ∀ (l : List UInt8) (i : Nat), i < run l → ∃ x, l[i]? = some x ∧ 128 ≤ x.toNat
  | [], i, h => by simp [run] at h
  | y :: r, i, h => by
    by_cases hy : 128 ≤ y.toNat
    · match i with
      | 0 => exact ⟨y, by simp, hy⟩
      | i + 1 =>
        obtain ⟨x, hx, hx'⟩ := run_at r i (by simp only [run, hy, if_true] at h; omega)
        exact ⟨x, by simpa using hx, hx'⟩
    · simp [run, hy] at h
theorem run_le : ∀ (l : List UInt8), run l ≤ l.length
  | [] => Nat.le_refl _
  | y :: r => by
    have := run_le r
    simp only [run, List.length_cons]
    split <;> omega
theorem run_not {l : List UInt8} {x : UInt8} (h : l[run l]? = some x) : x.toNat < 128 := by
  rcases Nat.lt_or_ge x.toNat 128 with h1 | h1
  · exact h1
  · have := run_ge l (run l + 1) (fun j hj => by
      rcases Nat.lt_or_ge j (run l) with h2 | h2
      · exact run_at l j h2
      · obtain rfl : j = run l := by omega
        exact ⟨x, h, h1⟩)
    omega
theorem run_end {l : List UInt8} {i : Nat} (h : ∀ j, j < i → ∃ x, l[j]? = some x ∧ 128 ≤ x.toNat) (he : l[i]? = none) : run l = i := by
  have h1 := run_ge l i h
  have h2 := run_le l
  have h3 : l.length ≤ i := List.getElem?_eq_none_iff.1 he
  omega
theorem run_stop {l : List UInt8} {i : Nat} {x : UInt8} (h : ∀ j, j < i → ∃ x, l[j]? = some x ∧ 128 ≤ x.toNat) (he : l[i]? = some x) (hx : x.toNat < 128) : run l = i := by
  have h1 := run_ge l i h
  rcases Nat.lt_or_ge i (run l) with h2 | h2
  · obtain ⟨y, hy, hy'⟩ := run_at l i h2
    rw [he] at hy
    injection hy with hy
    subst hy
    omega
  · omega
theorem run_nil {l : List UInt8} : l[run l]? = none ↔ run l = l.length := by
  rw [List.getElem?_eq_none_iff]
  have := run_le l
  omega

theorem val_append : ∀ (a b : List UInt8), val (a ++ b) = val a + 128 ^ a.length * val b
  | [], b => by simp [val]
  | x :: a, b => by
    simp only [List.cons_append, val, val_append a b, List.length_cons, Nat.pow_succ]
    rw [Nat.mul_add, Nat.mul_comm (128 ^ a.length) 128, Nat.mul_assoc, Nat.add_assoc]
theorem val_lt : ∀ (a : List UInt8), val a < 128 ^ a.length
  | [] => by simp [val]
  | x :: a => by
    have h := val_lt a
    simp only [val, List.length_cons, Nat.pow_succ]
    have : x.toNat % 128 < 128 := Nat.mod_lt _ (by decide)
    omega
theorem take_succ {l : List UInt8} {i : Nat} {x : UInt8} (h : l[i]? = some x) : l.take (i + 1) = l.take i ++ [x] := by
  rw [List.take_add_one, h]; rfl
theorem val_take {l : List UInt8} {i : Nat} {x : UInt8} (h : l[i]? = some x) : val (l.take (i + 1)) = val (l.take i) + 128 ^ i * (x.toNat % 128) := by
  have hi := (List.getElem?_eq_some_iff.1 h).1
  rw [take_succ h, val_append, List.length_take, Nat.min_eq_left (by omega)]
  simp [val]

theorem pow_le9 {i : Nat} (h : i ≤ 8) : 128 ^ i * 128 ≤ 9223372036854775808 := by
  have h1 : (128 : Nat) ^ i ≤ 128 ^ 8 := Nat.pow_le_pow_right (by omega) h
  have h2 : (128 : Nat) ^ 8 = 72057594037927936 := by decide
  omega
/-- What is read is a uint64. -/
theorem val_u64 {l : List UInt8} {i : Nat} {x : UInt8} (hi : i ≤ 9) (hl : l[i]? = some x) (hok : okLast i x.toNat = true) (hx : x.toNat < 128) : val (l.take (i + 1)) < 18446744073709551616 := by
  have h1 := val_lt (l.take i)
  have hil := (List.getElem?_eq_some_iff.1 hl).1
  rw [List.length_take, Nat.min_eq_left (by omega)] at h1
  rw [val_take hl, Nat.mod_eq_of_lt hx]
  rcases Nat.lt_or_ge i 9 with h9 | h9
  · have h2 := pow_le9 (i := i) (by omega)
    have h3 : 128 ^ i * x.toNat ≤ 128 ^ i * 127 := Nat.mul_le_mul_left _ (by omega)
    omega
  · obtain rfl : i = 9 := by omega
    have hx1 : x.toNat = 1 := by simpa [okLast] using hok
    have h2 : (128 : Nat) ^ 9 = 9223372036854775808 := by decide
    rw [hx1]
    omega
theorem rd_of {most : Nat} {l : List UInt8} {k : Nat} (hk : run l = k) (h9 : k ≤ 9) : rd most l = match l[k]? with
    | none => (0, 0, 11)
    | some x => if okLast k x.toNat = false then (0, 0, 7) else if most < val (l.take (k + 1)) then (0, 0, 12) else (val (l.take (k + 1)), k + 1, 0) := by
  subst hk
  unfold rd
  rw [if_neg (by omega)]
theorem rd_long {most : Nat} {l : List UInt8} (h : 10 ≤ run l) : rd most l = (0, 0, 7) := by unfold rd; rw [if_pos h]
/-- Three ways of what is read. -/
theorem rd_ways (most : Nat) (l : List UInt8) : (∃ c, rd most l = (0, 0, c) ∧ (c = 7 ∨ c = 11 ∨ c = 12)) ∨ (∃ n k, rd most l = (n, k, 0) ∧ n ≤ most ∧ n < 18446744073709551616 ∧ 0 < k ∧ k ≤ 10 ∧ k ≤ l.length) := by
  rcases Nat.lt_or_ge (run l) 10 with h | h
  · rw [rd_of rfl (by omega)]
    split
    · exact .inl ⟨11, rfl, by simp⟩
    · rename_i x hx
      have hxl := run_not hx
      have hlen := (List.getElem?_eq_some_iff.1 hx).1
      split
      · exact .inl ⟨7, rfl, by simp⟩
      · rename_i hok
        split
        · exact .inl ⟨12, rfl, by simp⟩
        · exact .inr ⟨_, _, rfl, by omega, val_u64 (by omega) hx (by simpa using hok) hxl, by omega, by omega, by omega⟩
  · exact .inl ⟨7, rd_long h, by simp⟩

/-- How a number is written: bytes that go on, and one that doesn't. -/
theorem uv_parts : ∀ (n : Nat), ∃ (a : List UInt8) (x : UInt8), uvarint n = a ++ [x] ∧ (∀ y ∈ a, 128 ≤ y.toNat) ∧ x.toNat < 128 ∧ (a ≠ [] → x.toNat ≠ 0) ∧ val (uvarint n) = n := by
  intro n
  induction n using Nat.strongRecOn with
  | ind n ih =>
    by_cases hn : n < 128
    · rw [uvarint_small hn]
      have hx := toUInt8_toNat (a := n) (by omega)
      exact ⟨[], n.toUInt8, rfl, fun y h => by simp at h, by omega, fun h => absurd rfl h, by simp [val, hx]; omega⟩
    · rw [uvarint_big (by omega)]
      obtain ⟨a, x, h1, h2, h3, h4, h5⟩ := ih (n / 128) (by omega)
      have hx := toUInt8_toNat (a := n % 128 + 128) (by omega)
      refine ⟨(n % 128 + 128).toUInt8 :: a, x, by rw [h1]; rfl, ?_, h3, ?_, ?_⟩
      · intro y hy
        rcases List.mem_cons.1 hy with rfl | hy
        · omega
        · exact h2 y hy
      · intro _
        by_cases ha : a = []
        · subst ha
          rw [h1] at h5
          simp [val] at h5
          omega
        · exact h4 ha
      · simp only [val, hx, h5]
        omega
theorem run_append {a : List UInt8} (h : ∀ y ∈ a, 128 ≤ y.toNat) (x : UInt8) (hx : x.toNat < 128) (r : List UInt8) : run (a ++ [x] ++ r) = a.length := by
  induction a with
  | nil => simp [run]; omega
  | cons y a ih =>
    have hy := h y (by simp)
    simp only [List.cons_append, run, hy, if_true, List.length_cons]
    have := ih (fun y hy => h y (by simp [hy]))
    simp at this ⊢
    exact this
/-- What is written is read. -/
theorem rd_uv (n : Nat) (r : List UInt8) (most : Nat) (h64 : n < 18446744073709551616) (hm : n ≤ most) : rd most (uvarint n ++ r) = (n, (uvarint n).length, 0) := by
  obtain ⟨a, x, h1, h2, h3, h4, h5⟩ := uv_parts n
  have h10 := uvarint_length64 h64
  rw [h1] at h10 h5 ⊢
  have hrun := run_append h2 x h3 r
  have hl : (a ++ [x]).length = a.length + 1 := by simp
  rw [hl] at h10 ⊢
  rw [rd_of hrun (by omega)]
  have hat : (a ++ [x] ++ r)[a.length]? = some x := by simp
  rw [hat]
  have htk : (a ++ [x] ++ r).take (a.length + 1) = a ++ [x] := by
    rw [List.take_append_of_le_length (by simp)]
    exact List.take_of_length_le (by simp)
  have hok : okLast a.length x.toNat = true := by
    unfold okLast
    by_cases ha : a.length = 9
    · rw [if_pos ha]
      have hv : val (a ++ [x]) = val a + 128 ^ a.length * x.toNat := by rw [val_append]; simp only [val]; rw [Nat.mod_eq_of_lt h3]; simp
      have hne := h4 (fun e => by rw [e] at ha; simp at ha)
      rw [h5, ha] at hv
      have h2 : (128 : Nat) ^ 9 = 9223372036854775808 := by decide
      rw [h2] at hv
      have : x.toNat = 1 := by omega
      simp [this]
    · rw [if_neg ha]
      by_cases h0 : a.length = 0
      · simp [h0]
      · have hne := h4 (fun e => by rw [e] at h0; simp at h0)
        simp [hne]
  show (if okLast a.length x.toNat = false then _ else _) = _
  rw [hok, htk, h5, if_neg (by simp), if_neg (by omega)]
/-- Unlike numbers: none's bytes begin the other one's. -/
theorem uv_apart {a b : Nat} (ha : a < 18446744073709551616) (hb : b < 18446744073709551616) (h : uvarint a = (uvarint b).take (uvarint a).length) : a = b := by
  have h1 : uvarint b = uvarint a ++ (uvarint b).drop (uvarint a).length := by
    conv => lhs; rw [← List.take_append_drop (uvarint a).length (uvarint b)]
    rw [← h]
  have h2 := rd_uv a ((uvarint b).drop (uvarint a).length) 18446744073709551615 ha (by omega)
  have h3 := rd_uv b [] 18446744073709551615 hb (by omega)
  rw [List.append_nil, h1, h2] at h3
  exact congrArg Prod.fst h3

/-- How many bytes a number has. -/
theorem uv_len : ∀ (n : Nat), n < 18446744073709551616 → (uvarint n).length = max 1 ((bitLen n + 6) / 7) := by
  intro n
  induction n using Nat.strongRecOn with
  | ind n ih =>
    intro h
    by_cases hn : n < 128
    · rw [uvarint_small hn]
      have h1 : bitLen n ≤ 8 := bitLen_le8 ⟨n, by omega⟩
      have h2 : ∀ m : Fin 128, bitLen m.val ≤ 7 := by decide +kernel
      have h3 := h2 ⟨n, hn⟩
      simp only at h3
      simp only [List.length_singleton]
      omega
    · rw [uvarint_big (by omega), List.length_cons, ih (n / 128) (by omega) (by omega)]
      have h1 := bitLen_shift 7 n (by omega) h
      have h2 : bitLen (n / 128) ≠ 0 := by
        rw [bitLen_half _ (by omega) (by omega)]
        omega
      have e : (2 : Nat) ^ 7 = 128 := by decide
      rw [e] at h1
      omega

/-- What a reader that is asked for a text finds. -/
def txt (most : Nat) (l : List UInt8) : Nat × Nat × Nat :=
  match rd most l with
  | (n, k, c) => if c = 0 ∧ l.length - k < n then (0, 0, 11) else (n, k, c)

end Go.Proofs.WireMath
