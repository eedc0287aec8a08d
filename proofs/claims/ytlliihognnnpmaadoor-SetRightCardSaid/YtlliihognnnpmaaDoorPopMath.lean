/- How many bits of a word are 1, byte by byte. -/
import Derived.Test.YtlliihognnnpmaaDoorMemMath
namespace Go.Proofs.YtlliihognnnpmaaDoor
open SetMath

def val : List Nat → Nat
  | [] => 0
  | b :: t => 256 * val t + b
def maskN (m : Nat) : Nat → Nat
  | 0 => 0
  | k + 1 => 256 * maskN m k + m
theorem and_byte {L H m M : Nat} (hL : L < 256) (hm : m < 256) : (256 * H + L) &&& (256 * M + m) = 256 * (H &&& M) + (L &&& m) := by
  have hx : L &&& m < 2 ^ 8 := Nat.and_lt_two_pow _ (by omega)
  apply Nat.eq_of_testBit_eq
  intro j
  rw [Nat.testBit_and, show (256 : Nat) = 2 ^ 8 from rfl, Nat.testBit_two_pow_mul_add _ (by omega), Nat.testBit_two_pow_mul_add _ (by omega), Nat.testBit_two_pow_mul_add _ hx]
  split
  · rw [Nat.testBit_and]
  · rw [Nat.testBit_and]
theorem half_byte : ∀ L, L < 256 → ∀ h, h < 2 → (L / 2 + 128 * h) &&& 85 = (L / 2) &&& 85 := by decide +kernel
theorem quarter_byte : ∀ L, L < 256 → ∀ h, h < 4 → (L / 4 + 64 * h) &&& 51 = (L / 4) &&& 51 := by decide +kernel
theorem and_all {bs : List Nat} (m : Nat) (hm : m < 256) : (∀ b ∈ bs, b < 256) → val bs &&& maskN m bs.length = val (bs.map (· &&& m)) := by
  induction bs with
  | nil => intro _; simp [val, maskN]
  | cons b t ih =>
    intro h
    simp only [val, List.length_cons, maskN, List.map_cons]
    rw [and_byte (h b (by simp)) hm, ih (fun x hx => h x (by simp [hx]))]
theorem and_half {bs : List Nat} : (∀ b ∈ bs, b < 256) → (val bs / 2) &&& maskN 85 bs.length = val (bs.map fun b => (b / 2) &&& 85) := by
  induction bs with
  | nil => intro _; rfl
  | cons b t ih =>
    intro h
    have hb := h b (by simp)
    simp only [val, List.length_cons, maskN, List.map_cons]
    have e : (256 * val t + b) / 2 = 256 * (val t / 2) + (b / 2 + 128 * (val t % 2)) := by omega
    rw [e, and_byte (by omega) (by omega), ih (fun x hx => h x (by simp [hx])), half_byte b hb _ (Nat.mod_lt _ (by omega))]
theorem and_quarter {bs : List Nat} : (∀ b ∈ bs, b < 256) → (val bs / 4) &&& maskN 51 bs.length = val (bs.map fun b => (b / 4) &&& 51) := by
  induction bs with
  | nil => intro _; rfl
  | cons b t ih =>
    intro h
    have hb := h b (by simp)
    simp only [val, List.length_cons, maskN, List.map_cons]
    have e : (256 * val t + b) / 4 = 256 * (val t / 4) + (b / 4 + 64 * (val t % 4)) := by omega
    rw [e, and_byte (by omega) (by omega), ih (fun x hx => h x (by simp [hx])), quarter_byte b hb _ (Nat.mod_lt _ (by omega))]
theorem val_add (f g : Nat → Nat) : ∀ bs : List Nat, val (bs.map f) + val (bs.map g) = val (bs.map fun b => f b + g b)
  | [] => rfl
  | b :: t => by
    have := val_add f g t
    simp only [List.map_cons, val]
    omega
def nib (d : Nat) : Prop := d % 16 ≤ 4 ∧ d / 16 ≤ 4
theorem val_mod {bs : List Nat} (h : ∀ b ∈ bs, nib b) : val bs % 16 ≤ 4 := by
  cases bs with
  | nil => simp [val]
  | cons b t =>
    have := (h b (by simp)).1
    simp only [val]
    omega
theorem and15 (x : Nat) : x &&& 15 = x % 16 := Nat.and_two_pow_sub_one_eq_mod x 4
theorem and_nib {bs : List Nat} : (∀ b ∈ bs, nib b) → (val bs / 16 + val bs) &&& maskN 15 bs.length = val (bs.map fun b => b / 16 + b % 16) := by
  induction bs with
  | nil => intro _; rfl
  | cons b t ih =>
    intro h
    have hb := h b (by simp)
    have ht := val_mod (fun x hx => h x (by simp [hx]) : ∀ x ∈ t, nib x)
    unfold nib at hb
    simp only [val, List.length_cons, maskN, List.map_cons]
    have e : (256 * val t + b) / 16 + (256 * val t + b) = 256 * (val t / 16 + val t) + (b / 16 + b + 16 * (val t % 16)) := by omega
    rw [e, and_byte (by omega) (by omega), ih (fun x hx => h x (by simp [hx])), and15]
    omega
def p1 (b : Nat) : Nat := ((b / 2) &&& 85) + (b &&& 85)
def p2 (b : Nat) : Nat := ((b / 4) &&& 51) + (b &&& 51)
def p3 (b : Nat) : Nat := b / 16 + b % 16
def pop (b : Nat) : Nat := ((List.range 8).filter fun j => b.testBit j).length
theorem p_all : ∀ b, b < 256 → p1 b < 256 ∧ p2 (p1 b) < 256 ∧ (p2 (p1 b) % 16 ≤ 4 ∧ p2 (p1 b) / 16 ≤ 4) ∧ p3 (p2 (p1 b)) = pop b ∧ pop b ≤ 8 := by decide +kernel
/-- The bytes of a number. -/
def bytesOf (x : Nat) : Nat → List Nat
  | 0 => []
  | k + 1 => x % 256 :: bytesOf (x / 256) k
theorem bytes_len (k : Nat) : ∀ x, (bytesOf x k).length = k := by
  induction k with
  | zero => intro x; rfl
  | succ k ih => intro x; simp [bytesOf, ih]
theorem bytes_lt (k : Nat) : ∀ x, ∀ b ∈ bytesOf x k, b < 256 := by
  induction k with
  | zero => intro x b hb; simp [bytesOf] at hb
  | succ k ih =>
    intro x b hb
    simp only [bytesOf, List.mem_cons] at hb
    rcases hb with rfl | hb
    · exact Nat.mod_lt _ (by omega)
    · exact ih _ b hb
theorem bytes_val (k : Nat) : ∀ x, x < 256 ^ k → val (bytesOf x k) = x := by
  induction k with
  | zero => intro x hx; simp at hx; simp [bytesOf, val, hx]
  | succ k ih =>
    intro x hx
    rw [bytesOf, val, ih (x / 256) (by rw [Nat.pow_succ] at hx; exact Nat.div_lt_of_lt_mul (by rw [Nat.mul_comm]; exact hx))]
    omega
def popk (k y : Nat) : Nat := ((List.range (8 * k)).filter fun j => y.testBit j).length
theorem popk_bytes (k : Nat) : ∀ x, popk k x = ((bytesOf x k).map pop).sum := by
  induction k with
  | zero => intro x; rfl
  | succ k ih =>
    intro x
    rw [bytesOf, List.map_cons, List.sum_cons, ← ih]
    unfold popk pop
    rw [show 8 * (k + 1) = 8 + 8 * k by omega, List.range_add, List.filter_append, List.length_append, List.filter_map, List.length_map]
    have hx : 2 ^ 8 * (x / 256) + x % 256 = x := by omega
    have hl : x % 256 < 2 ^ 8 := Nat.mod_lt _ (by omega)
    congr 1
    · congr 1
      apply List.filter_congr
      intro j hj
      have hj' : j < 8 := by simpa using hj
      have := Nat.testBit_two_pow_mul_add (x / 256) hl j
      rw [hx, if_pos hj'] at this
      exact this
    · congr 1
      apply List.filter_congr
      intro j _
      have := Nat.testBit_two_pow_mul_add (x / 256) hl (8 + j)
      rw [hx, if_neg (by omega), show 8 + j - 8 = j by omega] at this
      exact this
theorem sum_fold {u0 u1 u2 u3 u4 u5 u6 u7 : Nat} (h0 : u0 ≤ 8) (h1 : u1 ≤ 8) (h2 : u2 ≤ 8) (h3 : u3 ≤ 8) (h4 : u4 ≤ 8) (h5 : u5 ≤ 8) (h6 : u6 ≤ 8) (h7 : u7 ≤ 8) (X x4 x5 x6 : Nat) (hX : X = val [u0, u1, u2, u3, u4, u5, u6, u7]) (h4' : x4 = X + X / 256) (h5' : x5 = x4 + x4 / 65536) (h6' : x6 = x5 + x5 / 4294967296) :
    x6 % 128 = u0 + u1 + u2 + u3 + u4 + u5 + u6 + u7 ∧ x4 < 2 ^ 62 ∧ x5 < 2 ^ 62 ∧ x6 < 2 ^ 62 := by
  simp only [val] at hX
  have e1 : X / 256 = 256 * (256 * (256 * (256 * (256 * (256 * (256 * 0 + u7) + u6) + u5) + u4) + u3) + u2) + u1 := by omega
  have e4 : x4 = 256 * (256 * (256 * (256 * (256 * (256 * (256 * u7 + (u6 + u7)) + (u5 + u6)) + (u4 + u5)) + (u3 + u4)) + (u2 + u3)) + (u1 + u2)) + (u0 + u1) := by omega
  have e5 : x4 / 65536 = 256 * (256 * (256 * (256 * (256 * u7 + (u6 + u7)) + (u5 + u6)) + (u4 + u5)) + (u3 + u4)) + (u2 + u3) := by omega
  have e6 : x5 = 256 * (256 * (256 * (256 * (256 * (256 * (256 * u7 + (u6 + u7)) + (u5 + u6 + u7)) + (u4 + u5 + u6 + u7)) + (u3 + u4 + u5 + u6)) + (u2 + u3 + u4 + u5)) + (u1 + u2 + u3 + u4)) + (u0 + u1 + u2 + u3) := by omega
  have e7 : x5 / 4294967296 = 256 * (256 * (256 * u7 + (u6 + u7)) + (u5 + u6 + u7)) + (u4 + u5 + u6 + u7) := by omega
  clear h4' h5' hX e1 e5
  omega
end Go.Proofs.YtlliihognnnpmaaDoor
