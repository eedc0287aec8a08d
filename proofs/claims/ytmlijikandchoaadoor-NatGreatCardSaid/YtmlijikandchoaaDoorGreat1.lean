/- The greatest number and what is beyond: lists of words, and the document's Greatest. -/
import Derived.Test.YtmlijikandchoaaDoorRules
namespace Go.Proofs.NatMath
def W1 : Nat := 18446744073709551615
theorem W1_lt : W1 < B64 := by decide
/-- all ones -/
def ones (k : Nat) : List Nat := List.replicate k W1
theorem ones_len (k : Nat) : (ones k).length = k := by simp [ones]
theorem ones_dig (k : Nat) : Dig B64 (ones k) := by
  intro x hx
  rw [(List.mem_replicate.1 hx).2]; exact W1_lt
theorem ones_val (k : Nat) : val B64 (ones k) + 1 = B64 ^ k := by
  induction k with
  | zero => rfl
  | succ k ih =>
    have e : ones (k + 1) = W1 :: ones k := List.replicate_succ
    rw [e]
    simp only [val]
    rw [Nat.pow_succ, ← ih, Nat.add_mul, Nat.one_mul, Nat.mul_comm B64]
    have : W1 + 1 = B64 := by decide
    omega
theorem ones_top (k : Nat) : Top (ones k) := by
  unfold Top
  refine cnt_of _ _ (Nat.le_refl _) (fun i hi h => by omega) ?_
  intro hp
  simp [ones]
  decide
theorem ones_digs (k : Nat) : digs B64 (val B64 (ones k)) = ones k := (digs_eq B64_two (ones_dig k) (ones_top k) rfl).symm
theorem val_zeros_behind (xs : List Nat) (k : Nat) : val B64 (xs ++ List.replicate k 0) = val B64 xs := by
  rw [val_append, val_zeros B64 (List.replicate k 0) (by intro i hi; simp)]
  simp
/-- too great -/
theorem great_of {n : Nat} (h : B64 ^ 64 ≤ n) : 64 < (digs B64 n).length := by
  rcases Nat.lt_or_ge 64 (digs B64 n).length with hl | hl
  · exact hl
  · have := lt_of_len hl
    exact absurd (Nat.lt_of_lt_of_le this h) (Nat.lt_irrefl n)
def gr : Nat → Nat
  | 0 => 0
  | i + 1 => 2 * gr i + 1
theorem gr_val (i : Nat) : gr i + 1 = 2 ^ i := by
  induction i with
  | zero => rfl
  | succ i ih => rw [Nat.pow_succ, ← ih]; show 2 * gr i + 1 + 1 = _; omega
theorem gr_ones (k : Nat) : gr (64 * k) = val B64 (ones k) := by
  have h1 := gr_val (64 * k)
  have h2 := ones_val k
  rw [B64_eq, ← Nat.pow_mul] at h2
  rw [B64_eq]
  rw [← h2] at h1
  exact Nat.add_right_cancel h1
theorem gr_lt (i : Nat) : gr i < 2 ^ i := by have := gr_val i; omega
end Go.Proofs.NatMath
namespace Go.Proofs.YtmlijikandchoaaDoor
open Go.RowKit NatMath

def GrRel (w : World) (N : Nat) (d i : Value) (wr : World) : Prop := ∃ j : Nat, j ≤ N ∧ i = .int .i64 (j : Int) ∧ SI wr d (digs 10 (gr j)) ∧ Below w.heap.size w wr

set_option maxRecDepth 100000 in
set_option maxHeartbeats 400000 in
theorem greatest_any (w : World) : Calls Tryd.prog 36 #[] w (RetI w (digs 10 (gr 4096))) := by
  obtain ⟨N, hN⟩ : ∃ N, N = 4096 := ⟨_, rfl⟩
  rw [← hN]
  have hN1 : (N : Int) = 4096 := by omega
  have HN := Lib.hid hN1
  clear hN hN1
  go_enter Tryd.func36, Tryd.ntmps36
  go_wp2
  go_loopw [1, 2] (fun d i wr => GrRel w N d i wr) (fun _ i _ => N - (intOf i).toNat)
  case atStart => exact ⟨0, Nat.zero_le _, rfl, SI.nil _, Below.refl _ _⟩
  case round =>
    obtain ⟨j, hj, rfl, sd, hb⟩ := hrel
    by_cases hlt : (j : Int) < 4096
    · have HL := Lib.hid (show (digs 10 (gr j)).length ≤ 1000000 by have := digs_len (gr_lt j); omega)
      have HDB : Hid (Calls Tryd.prog 22 #[u1, .int .i64 1] wr (RetI wr (digs 10 (gr (j + 1))))) := double_int u1 _ 1 wr sd (by omega) (by omega) HL.out
      go_wp2_with fail
      refine HDB.out.mono ?_
      rintro e w9 ⟨v9, rfl, s9, hb9⟩
      go_wp2
      go_roundw
      case rel => exact ⟨j + 1, by have := HN.out; omega, by go_num, s9, below_next hb hb9⟩
      case measure => simp [intOf]; have := HN.out; omega
    · have hjN : j = N := by have := HN.out; omega
      subst hjN
      go_wp2
      go_ret
      exact ⟨_, rfl, sd, hb⟩
end Go.Proofs.YtmlijikandchoaaDoor
