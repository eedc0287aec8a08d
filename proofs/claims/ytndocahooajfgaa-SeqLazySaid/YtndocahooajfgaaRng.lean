/- Range: its row; no statement of the seat. -/
import Derived.Test.YtndocahooajfgaaEvery
import Derived.Test.YtndocahooajfgaaSMath
namespace Go.Proofs.Ytndocahooajfgaa
open Go.RowKit SeqMath
attribute [local go_sem] Oper.semAt_some
attribute [local go_sem] wide_fn wide_depth wide_in_fn wide_in_depth
attribute [local simp] wide_fn wide_in_fn
set_option maxHeartbeats 1000000
set_option maxRecDepth 100000

theorem isAhead_any (x to_ by_ : Int) (w : World) : Calls Try.prog 26 #[.int .i64 x, .int .i64 to_, .int .i64 by_] w fun e w' => e = .returned (.bool (aheadB x to_ by_)) ∧ w = w' := by
  unfold aheadB
  by_cases h1 : 0 < by_ <;> by_cases h2 : x < to_ <;> by_cases h3 : by_ < 0 <;> by_cases h4 : to_ < x
  all_goals first
    | (exfalso; omega)
    | (go_enter Try.func26, Try.ntmps26
       go_wp2
       go_ret
       exact ⟨ret_bool (by simp [h1, h2, h3, h4]), rfl⟩)
def hasNext (x by_ : Int) : Bool := if 0 < by_ then decide (x ≤ 9223372036854775807 - by_) else decide (-9223372036854775808 - by_ ≤ x)
theorem hasNext_any (x by_ : Int) (w : World) (h1 : -9223372036854775808 ≤ by_) (h2 : by_ ≤ 9223372036854775807) : Calls Try.prog 27 #[.int .i64 x, .int .i64 by_] w fun e w' => e = .returned (.bool (hasNext x by_)) ∧ w = w' := by
  unfold hasNext
  by_cases h3 : 0 < by_
  · by_cases h4 : x ≤ 9223372036854775807 - by_
    all_goals
      go_enter Try.func27, Try.ntmps27
      go_wp2
      go_ret
      exact ⟨ret_bool (by simp [h4]), rfl⟩
  · by_cases h4 : -9223372036854775808 - by_ ≤ x
    all_goals
      go_enter Try.func27, Try.ntmps27
      go_wp2
      go_ret
      exact ⟨ret_bool (by simp [h3, h4]), rfl⟩

theorem rng_next_no {x to_ by_ : Int} (h : hasNext x by_ = false) (h1 : -9223372036854775808 ≤ to_) (h2 : to_ ≤ 9223372036854775807) : rng (x + by_) to_ by_ = [] := by
  refine rng_no ?_
  unfold hasNext at h
  unfold aheadB
  split at h <;> simp at h ⊢ <;> omega
theorem hasNext_in {x by_ : Int} (h : hasNext x by_ = true) (h1 : -9223372036854775808 ≤ x) (h2 : x ≤ 9223372036854775807) : -9223372036854775808 ≤ x + by_ ∧ x + by_ ≤ 9223372036854775807 := by
  unfold hasNext at h
  split at h <;> simp at h <;> omega

def rngRel (from_ to_ by_ : Int) (C : Nat → Prop) (J : (Nat → Prop) → List Int → World → Prop) (W : World) (p : Value) (A : World) : Prop :=
  ∃ x C' pre, p = .int .i64 x ∧ -9223372036854775808 ≤ x ∧ x ≤ 9223372036854775807 ∧ pre ++ rng x to_ by_ = rng from_ to_ by_ ∧ Turns C W A ∧ Grows C W.heap.size C' ∧ J C' pre A

theorem range_tells (from_ to_ by_ : Int) (b1 b2 b3 : Nat) (R : Nat → Prop) (w0 : World) (hb1 : Boxed w0 b1 3 (.int .i64 from_)) (hb2 : Boxed w0 b2 3 (.int .i64 to_)) (hb3 : Boxed w0 b3 3 (.int .i64 by_)) (r1 : R b1) (r2 : R b2) (r3 : R b3)
    (hf : -9223372036854775808 ≤ from_ ∧ from_ ≤ 9223372036854775807) (ht : -9223372036854775808 ≤ to_ ∧ to_ ≤ 9223372036854775807) (hb : -9223372036854775808 ≤ by_ ∧ by_ ≤ 9223372036854775807) :
    Tells 25 #[.pointer (some ⟨b1, 0, none⟩), .pointer (some ⟨b2, 0, none⟩), .pointer (some ⟨b3, 0, none⟩)] (rng from_ to_ by_) R w0 := by
  intro fid ly C J Jx W hS hn hC hJ hJx hY h0
  have c1 := (hS.boxed r1 hb1).cell
  have HS := Lib.hid (fun (A : World) (hT : Turns C W A) => (⟨((hS.turns hT hn hC).boxed r2 hb2).cell, ((hS.turns hT hn hC).boxed r3 hb3).cell⟩ : A.cell? ⟨b2, 0, none⟩ = some (.int .i64 to_) ∧ A.cell? ⟨b3, 0, none⟩ = some (.int .i64 by_)))
  have HY := Lib.hid hY
  clear hY
  refine callsIn_wide (n := 9) |>.1 ?_
  gi_enter Try.func25, Try.ntmps25
  gi_wp2
  gi_loopw [5] (rngRel from_ to_ by_ C J W) (fun p _ => cnt (intOf p) to_ by_)
  case atStart =>
    exact ⟨from_, C, [], rfl, hf.1, hf.2, rfl, Turns.refl _ _, Grows.refl _ _, h0⟩
  case round =>
    obtain ⟨x, C', pre, rfl, hx1, hx2, hpre, hT, hG, hj⟩ := hrel
    obtain ⟨c2, c3⟩ := HS.out _ hT
    by_cases ha : aheadB x to_ by_ = true
    · have hr := rng_yes ha
      have hq : rng from_ to_ by_ = pre ++ x :: rng (x + by_) to_ by_ := by rw [← hr, hpre]
      have hvc := HY.out C' pre x _ wr hq hj
      have HV := Lib.hid hvc
      have HQ := Lib.hid hq
      have HT := Lib.hid hT
      clear hvc hq hpre hr hj
      have hA := (isAhead_any x to_ by_ wr)
      rw [ha] at hA
      gi_wp2_with (first | (gi_at_call 26; refine (callsIn_wide.2 hA).mono ?_; rintro e w' ⟨rfl, rfl⟩) | (with_reducible show wpListIn _ _ _ _ _ (Oper.mk (some 16) (Op.call _) _ _ _ _ :: _) _ _; refine wpListIn_vcall (.tmp 14) (.tmp 15) 3 rfl fw rfl rfl rfl HV.out ?_))
      rintro e A2 ⟨C2, hT2, hG2, h⟩
      have hTE := HT.out.trans hT2 hG
      have hGE := hG.trans hG2 HT.out.size
      obtain ⟨c22, c32⟩ := HS.out _ hTE
      have hH := hasNext_any x by_ A2 hb.1 hb.2
      clear hT2 hG2 HV
      rcases h with ⟨rfl, hj'⟩ | ⟨rfl, hj'⟩
      · refine ⟨_, rfl, ?_⟩
        by_cases hh : hasNext x by_ = true
        · rw [hh] at hH
          obtain ⟨hi1, hi2⟩ := hasNext_in hh hx1 hx2
          gi_wp2_with (gi_at_call 27; refine (callsIn_wide.2 hH).mono ?_; rintro e w' ⟨rfl, rfl⟩)
          have hcnt : cnt (x + by_) to_ by_ < cnt x to_ by_ := by rw [cnt_yes ha]; omega
          exact ⟨⟨x + by_, C2, pre ++ [x], rfl, hi1, hi2, by rw [HQ.out]; simp, hTE, hGE, hj'⟩, hcnt⟩
        · rw [Bool.not_eq_true] at hh
          rw [hh] at hH
          have hz : pre ++ [x] = rng from_ to_ by_ := by rw [HQ.out, rng_next_no hh ht.1 ht.2]
          gi_wp2_with (gi_at_call 27; refine (callsIn_wide.2 hH).mono ?_; rintro e w' ⟨rfl, rfl⟩)
          refine bodyPost_ret (results_none rfl _ _ _) rfl ?_
          exact ⟨⟨_, rfl⟩, C2, hTE, hGE, .inl (hz ▸ hj')⟩
      · refine ⟨_, rfl, ?_⟩
        have hq : pre ++ [x] <+: rng from_ to_ by_ := ⟨rng (x + by_) to_ by_, by rw [HQ.out]; simp⟩
        gi_wp2
        refine bodyPost_ret (results_none rfl _ _ _) rfl ?_
        exact ⟨⟨_, rfl⟩, C2, hTE, hGE, .inr ⟨_, hq, hj'⟩⟩
    · rw [Bool.not_eq_true] at ha
      have hA := (isAhead_any x to_ by_ wr)
      rw [ha] at hA
      rw [rng_no ha, List.append_nil] at hpre
      subst hpre
      gi_wp2_with (gi_at_call 26; refine (callsIn_wide.2 hA).mono ?_; rintro e w' ⟨rfl, rfl⟩)
      go_end0
      exact ⟨⟨_, rfl⟩, C', hT, hG, .inl hj⟩

end Go.Proofs.Ytndocahooajfgaa
