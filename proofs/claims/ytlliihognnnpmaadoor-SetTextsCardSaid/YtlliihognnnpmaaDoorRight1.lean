/- May a set be: package set's Right; and a call of a function value. -/
import Derived.Test.YtlliihognnnpmaaDoorSet1
import Derived.Laws.Bits64b
import Derived.Shelf.Abstract
namespace Go.Proofs.YtlliihognnnpmaaDoor
open Go.RowKit SetMath

theorem wpList_vcall {ops : Array Oper} {Q : Exit → Act → World → Prop} {o : Oper} {rest : List Oper} {a : Act} {w : World} {g : Nat} {lb : Array Value} {v : Value} {R : Ending → World → Prop}
    (hgd : o.guard = none) (f x : Operand) (t : TypeId) (hop : o.op = .call {callee := .value f, args := #[x], argTypes := #[t]})
    (hf : a.eval f = .func (.func g) #[] lb) (hx : a.eval x = v) (he : Enters g) (hc : Calls Tryd.prog g (#[v] ++ lb) w R)
    (hK : ∀ e w', R e w' → ∃ u, e = .returned u ∧ wpList Tryd.prog ops Q rest (a.put o.dst u) w') : wpList Tryd.prog ops Q (o :: rest) a w := by
  refine wpList_plain hgd fun K hKK => ?_
  have hr : (execOp a.eval o).run Tryd.prog w = .ok (.enter g (#[v] ++ lb)) w := by
    have := he (#[v] ++ lb) w
    generalize a.eval = ρ at hf hx ⊢
    subst hx
    simp only [execOp, hop, resolve, hf]
    simp [invoke, go_sem]
    exact this
  unfold Oper.wp
  rw [hr, Oper.upon_enter]
  refine hc.mono fun e w' h => ?_
  obtain ⟨u, rfl, h2⟩ := hK e w' h
  exact hKK _ _ h2

theorem ofInt64 {a : Nat} (ha : a < 2 ^ 64) : (BitVec.ofInt 64 (a : Int)).toNat = a := by
  rw [BitVec.ofInt_natCast, BitVec.toNat_ofNat]; exact Nat.mod_eq_of_lt (by omega)
theorem bits_andNot_nat (a b : Nat) (ha : a < 2 ^ 64) (hb : b < 2 ^ 64) : bits .andNot .u64 (a : Int) (b : Int) = ((a &&& (2 ^ 64 - (b + 1)) : Nat) : Int) := by
  have hx : a &&& (2 ^ 64 - (b + 1)) < 2 ^ 64 := Nat.and_lt_two_pow _ (by omega)
  show IntKind.u64.wrap ((BitVec.ofInt 64 (a : Int) &&& ~~~ BitVec.ofInt 64 (b : Int)).toNat : Int) = _
  rw [BitVec.toNat_and, BitVec.toNat_not, ofInt64 ha, ofInt64 hb, IntKind.wrap_u64, show 2 ^ 64 - 1 - b = 2 ^ 64 - (b + 1) by omega]
  generalize a &&& (2 ^ 64 - (b + 1)) = z at *
  omega
theorem testBit_not {b : Nat} (hb : b < 2 ^ 64) (j : Nat) : (2 ^ 64 - (b + 1)).testBit j = (decide (j < 64) && !b.testBit j) := Nat.testBit_two_pow_sub_succ hb j
theorem andNot_zero (a n : Nat) (ha : a < 2 ^ 64) : (bits .andNot .u64 (a : Int) (used n : Int) == 0) = decide (a < 2 ^ (min (2 ^ n) 64)) := by
  rw [bits_andNot_nat _ _ ha (used_lt n), show (((a &&& (2 ^ 64 - (used n + 1)) : Nat) : Int) == 0) = decide (a &&& (2 ^ 64 - (used n + 1)) = 0) by
    rw [Bool.eq_iff_iff, beq_iff_eq, decide_eq_true_iff]; omega]
  rw [decide_eq_decide]
  constructor
  · intro h
    apply Nat.lt_pow_two_of_testBit
    intro j hj
    have h2 : (a &&& (2 ^ 64 - (used n + 1))).testBit j = false := by rw [h]; simp
    rw [Nat.testBit_and, testBit_not (used_lt n), used_bit] at h2
    rcases Nat.lt_or_ge j 64 with h64 | h64
    · simp only [h64, decide_true, Bool.true_and, Bool.and_eq_false_iff] at h2
      rcases h2 with h2 | h2
      · exact h2
      · simp at h2; omega
    · exact Nat.testBit_lt_two_pow (Nat.lt_of_lt_of_le ha (Nat.pow_le_pow_right (by omega) h64))
  · intro h
    apply Nat.eq_of_testBit_eq
    intro j
    rw [Nat.testBit_and, testBit_not (used_lt n), used_bit, Nat.zero_testBit]
    rcases Nat.lt_or_ge j (min (2 ^ n) 64) with hj | hj
    · simp [hj]
    · rw [Nat.testBit_lt_two_pow (Nat.lt_of_lt_of_le h (Nat.pow_le_pow_right (by omega) hj))]; simp

set_option maxRecDepth 100000 in
set_option maxHeartbeats 1000000 in
theorem right_any (v : Value) (n : Int) (ws : List Nat) (w : World) (h : IsSet w v n ws) (hw : ∀ x ∈ ws, x < 2 ^ 64) : Calls Tryd.prog 14 #[v] w (RetV w (.bool (rightB n ws))) := by
  obtain ⟨s, rfl, A, c, rfl, hc, hs⟩ := h
  rw [us_len] at hc ⊢
  have H53 := Lib.hid (fun w1 => rightVars_any n w1)
  by_cases h0 : 0 ≤ n ∧ n ≤ 16
  · obtain ⟨m, rfl⟩ : ∃ m : Nat, n = (m : Int) := ⟨n.toNat, by omega⟩
    have hm : m ≤ 16 := by omega
    have H54 := Lib.hid (fun w1 => width_any m w1 hm)
    have H55 := Lib.hid (fun w1 => usedBits_any m w1 hm)
    rw [decide_eq_true h0] at H53
    by_cases hl : ws.length = wid m
    · obtain ⟨x, t, rfl⟩ : ∃ x t, ws = x :: t := by
        cases ws with
        | nil => have := wid_pos m; simp at hl; omega
        | cons x t => exact ⟨x, t, rfl⟩
      have hx : x < 2 ^ 64 := hw x (by simp)
      have hz := andNot_zero x m hx
      have hrb : rightB (m : Int) (x :: t) = decide (x < 2 ^ (min (2 ^ m) 64)) := by
        unfold rightB
        rw [decide_eq_decide]
        constructor
        · intro h; exact h.2.2.2 x rfl
        · intro h; exact ⟨h0.1, h0.2, by rw [Int.toNat_natCast]; exact hl, fun y hy => by simp at hy; subst hy; rw [Int.toNat_natCast]; exact h⟩
      rw [hrb, ← hz]
      obtain ⟨ad, rfl, hlt, hcell⟩ := hs 0 (.int .u64 (x : Int)) rfl
      have hk : 0 < wid m := wid_pos m
      have hcell0 := (below_new w (.cells #[.int .i64 (m : Int), .slice (some ad) (wid m) c] 24)).cell (by rw [add_block]; exact hlt) |>.trans hcell
      rw [show ad.add 0 = ad by unfold Addr.add; split <;> simp_all] at hcell0
      rw [hl] at hc ⊢
      have hx2 := hw
      clear hrb hz hs hcell hw hx2 hl h0
      generalize wid m = k at *
      generalize used m = q at *
      go_enter Tryd.func14, Tryd.ntmps14
      go_wp2
      go_quiet ((first | (go_at_call 53; exact Calls.quiet_of_same ((H53.out _).mono fun _ _ h => ⟨h.1, h.2.symm⟩)) | (go_at_call 54; exact Calls.quiet_of_same ((H54.out _).mono fun _ _ h => ⟨h.1, h.2.symm⟩)) | (go_at_call 55; exact Calls.quiet_of_same ((H55.out _).mono fun _ _ h => ⟨h.1, h.2.symm⟩))))
      go_wp2
      go_ret
      exact ⟨rfl, below_drewN (below_new _ _) _⟩
    · have hrb : rightB (m : Int) ws = false := by
        unfold rightB
        rw [decide_eq_false_iff_not]
        intro h
        exact hl (by have := h.2.2.1; rwa [Int.toNat_natCast] at this)
      have hne : ((ws.length : Int) == (wid m : Int)) = false := by rw [beq_eq_false_iff_ne]; omega
      rw [hrb]
      clear hrb hs hw h0 hl
      generalize ws.length = l at *
      generalize wid m = k at *
      generalize used m = q at *
      go_enter Tryd.func14, Tryd.ntmps14
      go_wp2
      go_quiet ((first | (go_at_call 53; exact Calls.quiet_of_same ((H53.out _).mono fun _ _ h => ⟨h.1, h.2.symm⟩)) | (go_at_call 54; exact Calls.quiet_of_same ((H54.out _).mono fun _ _ h => ⟨h.1, h.2.symm⟩)) | (go_at_call 55; exact Calls.quiet_of_same ((H55.out _).mono fun _ _ h => ⟨h.1, h.2.symm⟩))))
      go_wp2
      go_ret
      exact ⟨rfl, below_drewN (below_new _ _) _⟩
  · have hrb : rightB n ws = false := by
      unfold rightB
      rw [decide_eq_false_iff_not]
      intro h
      exact h0 ⟨h.1, h.2.1⟩
    rw [decide_eq_false h0] at H53
    rw [hrb]
    clear hrb hs hw h0
    generalize ws.length = l at *
    go_enter Tryd.func14, Tryd.ntmps14
    go_wp2
    go_quiet ((first | (go_at_call 53; exact Calls.quiet_of_same ((H53.out _).mono fun _ _ h => ⟨h.1, h.2.symm⟩))))
    go_wp2
    go_ret
    exact ⟨rfl, below_drewN (below_new _ _) _⟩
end Go.Proofs.YtlliihognnnpmaaDoor
