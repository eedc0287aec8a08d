/- The chapter's example and a sum: alive answers true. -/
import Derived.Test.YtmlijikandchoaaDoorText1
namespace Go.Proofs.YtmlijikandchoaaDoor
open Go.RowKit NatMath

theorem below_new (w : World) (o : Obj) : Below w.heap.size w (w.alloc o) := (Below.refl _ _).alloc (Nat.le_refl _) o
theorem below_next {a b c : World} (h : Below a.heap.size a b) (k : Below b.heap.size b c) : Below a.heap.size a c := h.trans (k.mono h.size)

theorem dec_two64 : Lib.decDigits (val B64 [0, 1]) = [49, 56, 52, 52, 54, 55, 52, 52, 48, 55, 51, 55, 48, 57, 53, 53, 49, 54, 49, 54] := by
  have e : val B64 [0, 1] = 18446744073709551616 := by decide
  rw [e, Lib.decDigits_eq, Lib.nDigits_unique 19 18446744073709551616 (by decide) (by decide)]
  decide +kernel
theorem digs_two64 : (digs B64 (val B64 [0, 1])).length ≤ 64 := by
  have := digs_len_le (xs := [0, 1]) (by intro x hx; simp at hx; rcases hx with rfl | rfl <;> decide)
  exact Nat.le_trans this (by decide)
theorem dig_01 : Dig B64 [0, 1] := by intro x hx; simp at hx; rcases hx with rfl | rfl <;> decide
theorem dig_1 : Dig B64 [1] := by intro x hx; simp at hx; subst hx; decide
theorem dig_2 : Dig B64 [2] := by intro x hx; simp at hx; subst hx; decide
theorem len_small {n : Nat} (h : n < B64) : (digs B64 n).length ≤ 1 := len_of_lt (by rw [Nat.pow_one]; exact h)

set_option maxRecDepth 100000 in
set_option maxHeartbeats 400000 in
theorem alive_any (w : World) (htab : Tab w) : Calls Tryd.prog 10 #[] w (RetV w (.bool true)) := by
  have H1 := Lib.hid (text_any _ [0, 1] (w.alloc (.cells (us [0, 1]).toArray 36)) (SU.new [0, 1]) dig_01 (by decide) digs_two64 (htab.below ((Below.refl _ _).alloc (Nat.le_refl _) _)))
  rw [dec_two64] at H1
  have HA : Hid (∀ W : World, Calls Tryd.prog 13 #[.slice (some ⟨W.heap.size, 0, none⟩) 1 1, .slice (some ⟨W.heap.size + 1, 0, none⟩) 1 1] ((W.alloc (.cells #[.int .u64 1] 36)).alloc (.cells #[.int .u64 2] 36)) (RetN ((W.alloc (.cells #[.int .u64 1] 36)).alloc (.cells #[.int .u64 2] 36)) 3)) := by
    intro W
    have h1 : SU (W.alloc (.cells #[.int .u64 1] 36)) (.slice (some ⟨W.heap.size, 0, none⟩) 1 1) [1] := SU.new [1]
    have h2 : SU ((W.alloc (.cells #[.int .u64 1] 36)).alloc (.cells #[.int .u64 2] 36)) (.slice (some ⟨W.heap.size + 1, 0, none⟩) 1 1) [2] := by
      have := SU.new (w := W.alloc (.cells #[.int .u64 1] 36)) [2]
      rw [show (W.alloc (.cells #[.int .u64 1] 36)).heap.size = W.heap.size + 1 by simp] at this
      exact this
    exact add_any _ _ [1] [2] _ (h1.below ((Below.refl _ _).alloc (Nat.le_refl _) _)) h2 dig_1 dig_2 (by decide) (by decide) (Nat.le_trans (len_small (by decide)) (by decide)) (Nat.le_trans (len_small (by decide)) (by decide))
  go_enter Tryd.func10, Tryd.ntmps10
  go_wp2_with fail
  refine H1.out.mono ?_
  rintro e w1 ⟨rfl, hb1⟩
  go_wp2_with fail
  refine (HA.out _).mono ?_
  rintro e w2 ⟨v, t, rfl, hb2, h3⟩
  have h4 : t = true ∧ SU w2 v [3] := by
    rw [digs_one (by decide) (by decide)] at h3
    rcases h3 with ⟨_, h, h'⟩ | ⟨h, _⟩
    · exact ⟨h, h'⟩
    · simp at h
  obtain ⟨rfl, A, c, rfl, hc, hs⟩ := h4
  obtain ⟨ad, rfl, hbl, hcell⟩ := hs 0 (.int .u64 3) rfl
  have hcell0 : w2.cell? ad = some (.int .u64 3) := hcell
  go_wp2
  go_ret
  exact ⟨rfl, below_next (below_next (below_new _ _) hb1) (below_next (below_next (below_new _ _) (below_new _ _)) hb2)⟩

end Go.Proofs.YtmlijikandchoaaDoor
