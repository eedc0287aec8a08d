/- The sets without and with all assignments, and with those in which a variable is 1. -/
import Derived.Test.YtlliihognnnpmaaDoorBox
namespace Go.Proofs.YtlliihognnnpmaaDoor
open Go.RowKit SetMath

set_option maxRecDepth 100000 in
theorem words67 (N : Nat) (w : World) : Words (.func (.func 67) #[] #[]) N (fun _ => 0) w := by
  refine ⟨67, #[], rfl, enters67, fun i W _ _ => ?_⟩
  go_enter Tryd.func67, Tryd.ntmps67
  go_wp2
  go_ret
  exact ⟨rfl, Below.refl _ _⟩
set_option maxRecDepth 100000 in
theorem words88 (N : Nat) (w : World) : Words (.func (.func 88) #[] #[]) N (fun _ => 0) w := by
  refine ⟨88, #[], rfl, enters88, fun i W _ _ => ?_⟩
  go_enter Tryd.func88, Tryd.ntmps88
  go_wp2
  go_ret
  exact ⟨rfl, Below.refl _ _⟩
set_option maxRecDepth 100000 in
theorem words68 (N : Nat) (w : World) : Words (.func (.func 68) #[] #[]) N (fun _ => 18446744073709551615) w := by
  refine ⟨68, #[], rfl, enters68, fun i W _ _ => ?_⟩
  go_enter Tryd.func68, Tryd.ntmps68
  go_wp2
  go_ret
  exact ⟨rfl, Below.refl _ _⟩

set_option maxRecDepth 100000 in
set_option maxHeartbeats 1000000 in
theorem nothing_yes (n : Nat) (w : World) (hn : n ≤ 16) : Calls Tryd.prog 24 #[.int .i64 (n : Int)] w (RetSE w n (mk n fun _ => 0)) := by
  have H53 := Lib.hid (fun w1 => rightVars_any (n : Int) w1)
  rw [decide_eq_true (by omega)] at H53
  have HM := Lib.hid (fun w1 => made_any n _ _ w1 hn (words67 (wid n) w1) (fun _ _ => by decide))
  generalize (mk n fun _ => 0) = ws at *
  obtain ⟨w0, hw0, hb0, hs0, hg0⟩ := New1 w (.cells #[.int .i64 0, .slice none 0 0] 24)
  have HB := Lib.hid (And.intro hb0 (And.intro hs0 hg0))
  clear hb0 hs0 hg0 hn
  go_enter Tryd.func24, Tryd.ntmps24
  go_wp2_with fail
  rw [← hw0]
  clear hw0
  refine (H53.out _).mono ?_
  rintro e w1 ⟨rfl, rfl⟩
  go_wp2_with fail
  refine (HM.out _).mono ?_
  rintro e w2 ⟨s, rfl, hown, hb⟩
  obtain ⟨A, c, rfl, hcap⟩ := own_slice hown
  obtain ⟨hb0, hs0, hg0⟩ := HB.out
  obtain ⟨hc0, hc1, hf0, hf1⟩ := pair_facts (block_below hg0 hb)
  have HP := Lib.hid (pair_set (block_below hg0 hb) (.int .i64 (n : Int)) (.slice A (us ws).length c))
  have HO := Lib.hid (And.intro hown hb)
  clear hown hb hb0 hs0 hg0
  go_wp2
  refine bodyPost_ret (results_set2 rfl _ _ _ _ _ rfl HP.out) rfl ?_
  obtain ⟨hb0, hs0, hg0⟩ := HB.out
  exact ⟨_, rfl, ((HO.out.1.beside2 (HO.out.1.ne (by omega))).mono (by omega)), setPair_below (Below.step hb0 HO.out.2) (Nat.le_refl _) _ _⟩
set_option maxRecDepth 100000 in
set_option maxHeartbeats 1000000 in
theorem all_yes (n : Nat) (w : World) (hn : n ≤ 16) : Calls Tryd.prog 25 #[.int .i64 (n : Int)] w (RetSE w n (mk n fun _ => 18446744073709551615)) := by
  have H53 := Lib.hid (fun w1 => rightVars_any (n : Int) w1)
  rw [decide_eq_true (by omega)] at H53
  have HM := Lib.hid (fun w1 => made_any n _ _ w1 hn (words68 (wid n) w1) (fun _ _ => by decide))
  generalize (mk n fun _ => 18446744073709551615) = ws at *
  obtain ⟨w0, hw0, hb0, hs0, hg0⟩ := New1 w (.cells #[.int .i64 0, .slice none 0 0] 24)
  have HB := Lib.hid (And.intro hb0 (And.intro hs0 hg0))
  clear hb0 hs0 hg0 hn
  go_enter Tryd.func25, Tryd.ntmps25
  go_wp2_with fail
  rw [← hw0]
  clear hw0
  refine (H53.out _).mono ?_
  rintro e w1 ⟨rfl, rfl⟩
  go_wp2_with fail
  refine (HM.out _).mono ?_
  rintro e w2 ⟨s, rfl, hown, hb⟩
  obtain ⟨A, c, rfl, hcap⟩ := own_slice hown
  obtain ⟨hb0, hs0, hg0⟩ := HB.out
  obtain ⟨hc0, hc1, hf0, hf1⟩ := pair_facts (block_below hg0 hb)
  have HP := Lib.hid (pair_set (block_below hg0 hb) (.int .i64 (n : Int)) (.slice A (us ws).length c))
  have HO := Lib.hid (And.intro hown hb)
  clear hown hb hb0 hs0 hg0
  go_wp2
  refine bodyPost_ret (results_set2 rfl _ _ _ _ _ rfl HP.out) rfl ?_
  obtain ⟨hb0, hs0, hg0⟩ := HB.out
  exact ⟨_, rfl, ((HO.out.1.beside2 (HO.out.1.ne (by omega))).mono (by omega)), setPair_below (Below.step hb0 HO.out.2) (Nat.le_refl _) _ _⟩
set_option maxRecDepth 100000 in
set_option maxHeartbeats 1000000 in
theorem nothing_no (n : Int) (w : World) (hn : ¬ (0 ≤ n ∧ n ≤ 16)) : Calls Tryd.prog 24 #[.int .i64 n] w (RetNo w 3) := by
  have H53 := Lib.hid (fun w1 => rightVars_any n w1)
  rw [decide_eq_false hn] at H53
  obtain ⟨w0, hw0, hb0, hs0, hg0⟩ := New1 w (.cells #[.int .i64 0, .slice none 0 0] 24)
  have HB := Lib.hid (And.intro hb0 (And.intro hs0 hg0))
  clear hb0 hs0 hg0 hn
  go_enter Tryd.func24, Tryd.ntmps24
  go_wp2_with fail
  rw [← hw0]
  clear hw0
  refine (H53.out _).mono ?_
  rintro e w1 ⟨rfl, rfl⟩
  obtain ⟨hb0, hs0, hg0⟩ := HB.out
  obtain ⟨hc0, hc1, hf0, hf1⟩ := pair_facts hg0
  have HP := Lib.hid (pair_set hg0 (.int .i64 0) (.slice none 0 0))
  clear hb0 hs0 hg0
  go_wp2
  refine bodyPost_ret (results_set2 rfl _ _ _ _ _ rfl HP.out) rfl ?_
  exact ⟨rfl, setPair_below HB.out.1 (Nat.le_refl _) _ _⟩
set_option maxRecDepth 100000 in
set_option maxHeartbeats 1000000 in
theorem all_no (n : Int) (w : World) (hn : ¬ (0 ≤ n ∧ n ≤ 16)) : Calls Tryd.prog 25 #[.int .i64 n] w (RetNo w 3) := by
  have H53 := Lib.hid (fun w1 => rightVars_any n w1)
  rw [decide_eq_false hn] at H53
  obtain ⟨w0, hw0, hb0, hs0, hg0⟩ := New1 w (.cells #[.int .i64 0, .slice none 0 0] 24)
  have HB := Lib.hid (And.intro hb0 (And.intro hs0 hg0))
  clear hb0 hs0 hg0 hn
  go_enter Tryd.func25, Tryd.ntmps25
  go_wp2_with fail
  rw [← hw0]
  clear hw0
  refine (H53.out _).mono ?_
  rintro e w1 ⟨rfl, rfl⟩
  obtain ⟨hb0, hs0, hg0⟩ := HB.out
  obtain ⟨hc0, hc1, hf0, hf1⟩ := pair_facts hg0
  have HP := Lib.hid (pair_set hg0 (.int .i64 0) (.slice none 0 0))
  clear hb0 hs0 hg0
  go_wp2
  refine bodyPost_ret (results_set2 rfl _ _ _ _ _ rfl HP.out) rfl ?_
  exact ⟨rfl, setPair_below HB.out.1 (Nat.le_refl _) _ _⟩

/-- The word i of the set in which v is 1. -/
def varW (v i : Nat) : Nat := if v < 6 then onesN v else if i.testBit (v - 6) then 18446744073709551615 else 0
theorem varW_lt (v i : Nat) : varW v i < 2 ^ 64 := by
  unfold varW
  split
  · exact onesN_lt (by assumption)
  · split <;> decide
theorem shr_bit (i v : Nat) : ((i / 2 ^ v) &&& 1 = 1) ↔ i.testBit v = true := by
  rw [Nat.testBit_eq_decide_div_mod_eq, decide_eq_true_iff, Nat.and_one_is_mod]
theorem bits_and_i64_nat (a b : Nat) (ha : a < 2 ^ 63) (hb : b < 2 ^ 63) : bits .and .i64 (a : Int) (b : Int) = ((a &&& b : Nat) : Int) := by
  have hx : a &&& b < 2 ^ 63 := Nat.and_lt_two_pow _ (by omega)
  show IntKind.i64.wrap ((BitVec.ofInt 64 (a : Int) &&& BitVec.ofInt 64 (b : Int)).toNat : Int) = _
  rw [BitVec.toNat_and, ofInt64 (by omega), ofInt64 (by omega), IntKind.wrap_i64]
  generalize a &&& b = z at *
  omega
theorem bit_of_shr (i v : Nat) (hi : i < 2 ^ 63) : (bits .and .i64 ((i : Int) / 2 ^ v) 1 == 1) = i.testBit v := by
  have h1 : (i : Int) / 2 ^ v = ((i / 2 ^ v : Nat) : Int) := by rw [Int.natCast_ediv]; simp
  have h2 : i / 2 ^ v < 2 ^ 63 := Nat.lt_of_le_of_lt (Nat.div_le_self _ _) hi
  rw [h1, show (1 : Int) = ((1 : Nat) : Int) from rfl, bits_and_i64_nat _ _ h2 (by decide), Bool.eq_iff_iff, beq_iff_eq, ← shr_bit]
  omega
set_option maxRecDepth 100000 in
set_option maxHeartbeats 1000000 in
theorem bitsOf_any (v i : Nat) (w : World) (hv : v < 16) (hi : i < 1024) (ho : Ones w) : Calls Tryd.prog 72 #[.int .i64 (v : Int), .int .i64 (i : Int)] w (fun e w' => e = .returned (.int .u64 (varW v i : Int)) ∧ w = w') := by
  by_cases h6 : v < 6
  · have hc := ho.cell h6
    have hvw : varW v i = onesN v := by unfold varW; rw [if_pos h6]
    rw [hvw]
    generalize onesN v = q at *
    clear ho hvw
    go_enter Tryd.func72, Tryd.ntmps72
    go_wp2
    go_ret
    exact ⟨rfl, rfl⟩
  · have hb := bit_of_shr i (v - 6) (by omega)
    cases hcs : i.testBit (v - 6) with
    | true =>
      have hvw : varW v i = 18446744073709551615 := by unfold varW; rw [if_neg h6, if_pos hcs]
      rw [hcs] at hb
      rw [hvw]
      clear hcs hvw
      go_enter Tryd.func72, Tryd.ntmps72
      go_wp2
      go_ret
      exact ⟨rfl, rfl⟩
    | false =>
      have hvw : varW v i = 0 := by unfold varW; rw [if_neg h6, if_neg (by rw [hcs]; decide)]
      rw [hcs] at hb
      rw [hvw]
      clear hcs hvw
      go_enter Tryd.func72, Tryd.ntmps72
      go_wp2
      go_ret
      exact ⟨rfl, rfl⟩

set_option maxRecDepth 100000 in
theorem words71 (n v g : Nat) (w : World) (hn : n ≤ 16) (hv : v < 16) (ho : Ones w) (hg : w.heap[g]? = some (.cells #[.int .i64 (v : Int)] 3)) : Words (.func (.func 71) #[] #[.pointer (some ⟨g, 0, none⟩)]) (wid n) (varW v) w := by
  refine ⟨71, _, rfl, enters71, fun i W hi hb => ?_⟩
  have hle := wid_le hn
  have H72 := Lib.hid (bitsOf_any v i W hv (by omega) (ho.below hb))
  obtain ⟨hc, _⟩ := one_facts (block_below hg hb)
  generalize varW v i = q at *
  clear hb hg ho
  go_enter Tryd.func71, Tryd.ntmps71
  go_wp2_with fail
  refine H72.out.mono ?_
  rintro e w1 ⟨rfl, rfl⟩
  go_wp2
  go_ret
  exact ⟨rfl, Below.refl _ _⟩

set_option maxRecDepth 100000 in
set_option maxHeartbeats 1000000 in
theorem single_yes (n v : Nat) (w : World) (hn : n ≤ 16) (hv : v < n) (ho : Ones w) : Calls Tryd.prog 27 #[.int .i64 (n : Int), .int .i64 (v : Int)] w (RetSE w n (mk n (varW v))) := by
  have H53 := Lib.hid (fun w1 => rightVars_any (n : Int) w1)
  rw [decide_eq_true (by omega)] at H53
  have H70 := Lib.hid (fun w1 => hasVar_any (n : Int) (v : Int) w1)
  rw [decide_eq_true (by omega)] at H70
  have HM := Lib.hid (fun w1 g ho hg => made_any n _ _ w1 hn (words71 n v g w1 hn (by omega) ho hg) (fun _ _ => varW_lt _ _))
  generalize mk n (varW v) = ws at *
  obtain ⟨w0, hw0, hb0, hs0, hg0, hg1⟩ := New2 w (.cells #[.int .i64 (v : Int)] 3) (.cells #[.int .i64 0, .slice none 0 0] 24)
  obtain ⟨hcv, _⟩ := one_facts hg0
  have HB := Lib.hid (And.intro hb0 (And.intro hs0 (And.intro hg0 (And.intro hg1 (ho.below hb0)))))
  clear hb0 hs0 hg0 hg1 hn ho hv
  go_enter Tryd.func27, Tryd.ntmps27
  go_wp2_with fail
  rw [← hw0]
  clear hw0
  refine (H53.out _).mono ?_
  rintro e w1 ⟨rfl, rfl⟩
  go_wp2_with fail
  refine (H70.out _).mono ?_
  rintro e w1 ⟨rfl, rfl⟩
  go_wp2_with fail
  obtain ⟨hb0, hs0, hg0, hg1, ho⟩ := HB.out
  refine (HM.out _ _ ho hg0).mono ?_
  rintro e w2 ⟨s, rfl, hown, hb⟩
  obtain ⟨A, c, rfl, hcap⟩ := own_slice hown
  obtain ⟨hc0, hc1, hf0, hf1⟩ := pair_facts (block_below hg1 hb)
  have HP := Lib.hid (pair_set (block_below hg1 hb) (.int .i64 (n : Int)) (.slice A (us ws).length c))
  have HO := Lib.hid (And.intro hown hb)
  clear hown hb hb0 hs0 hg0 hg1 ho
  go_wp2
  refine bodyPost_ret (results_set2 rfl _ _ _ _ _ rfl HP.out) rfl ?_
  obtain ⟨hb0, hs0, hg0, hg1, ho⟩ := HB.out
  exact ⟨_, rfl, ((HO.out.1.beside2 (HO.out.1.ne (by omega))).mono (by omega)), setPair_below (Below.step hb0 HO.out.2) (by omega) _ _⟩
set_option maxRecDepth 100000 in
set_option maxHeartbeats 1000000 in
theorem single_no (n v : Int) (w : World) (h : ¬ ((0 ≤ n ∧ n ≤ 16) ∧ (0 ≤ v ∧ v < n))) : Calls Tryd.prog 27 #[.int .i64 n, .int .i64 v] w (RetNo w 3) := by
  have H53 := Lib.hid (fun w1 => rightVars_any n w1)
  have H70 := Lib.hid (fun w1 => hasVar_any n v w1)
  obtain ⟨w0, hw0, hb0, hs0, hg0, hg1⟩ := New2 w (.cells #[.int .i64 v] 3) (.cells #[.int .i64 0, .slice none 0 0] 24)
  obtain ⟨hcv, _⟩ := one_facts hg0
  obtain ⟨hc0, hc1, hf0, hf1⟩ := pair_facts hg1
  have HP := Lib.hid (pair_set hg1 (.int .i64 0) (.slice none 0 0))
  have HB := Lib.hid hb0
  clear hb0 hs0 hg0 hg1
  by_cases h1 : 0 ≤ n ∧ n ≤ 16
  · have h2 : ¬ (0 ≤ v ∧ v < n) := fun h2 => h ⟨h1, h2⟩
    rw [decide_eq_true h1] at H53
    rw [decide_eq_false h2] at H70
    clear h h1 h2
    go_enter Tryd.func27, Tryd.ntmps27
    go_wp2_with fail
    rw [← hw0]
    clear hw0
    refine (H53.out _).mono ?_
    rintro e w1 ⟨rfl, rfl⟩
    go_wp2_with fail
    refine (H70.out _).mono ?_
    rintro e w1 ⟨rfl, rfl⟩
    go_wp2
    refine bodyPost_ret (results_set2 rfl _ _ _ _ _ rfl HP.out) rfl ?_
    exact ⟨rfl, setPair_below HB.out (by omega) _ _⟩
  · rw [decide_eq_false h1] at H53
    clear h h1
    go_enter Tryd.func27, Tryd.ntmps27
    go_wp2_with fail
    rw [← hw0]
    clear hw0
    refine (H53.out _).mono ?_
    rintro e w1 ⟨rfl, rfl⟩
    go_wp2
    refine bodyPost_ret (results_set2 rfl _ _ _ _ _ rfl HP.out) rfl ?_
    exact ⟨rfl, setPair_below HB.out (by omega) _ _⟩
end Go.Proofs.YtlliihognnnpmaaDoor
