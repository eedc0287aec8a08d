/- OrderMakes: the law's walk; no statement of the seat. -/
import Derived.Test.YtldpmbifngeopaaAlive
namespace Go.Proofs.Ytldpmbifngeopaa
open Go.RowKit PermMath

theorem level_any (w : World) (g : Nat) (p : List Int) (v : Int) (h : Ord w g p) : Calls Try.prog 17 #[ptr g, .int .i64 v] w (Tell w (.int .i64 (at_ p v))) := by
  by_cases hv : 0 ≤ v ∧ v < p.length
  · obtain ⟨k, rfl⟩ := Int.eq_ofNat_of_zero_le hv.1
    exact level_yes w g p k h (by omega)
  · rw [at_not (fun hm => hv (h.1.mem.1 hm))]
    exact level_no w g p v h hv

set_option maxRecDepth 100000 in
set_option maxHeartbeats 1000000 in
theorem makes_no_no (w0 : World) (z : Int) (v : Value) (xs : List Int) (l : Int) (m : Int) (h : SI w0 v xs) (h40 : xs.length ≤ 40) (hz : z < 0 ∨ 16 < z) (hr : ¬ Rt xs) : Calls Try.prog 3 #[.int .i64 z, v, .int .i64 l, .int .i64 m] w0 (RetV w0 (.bool true)) := by
  have HX0 := Lib.hid (h)
  have HB0 := Lib.hid (Below.refl w0.heap.size w0)
  have H40 := Lib.hid h40
  have HR := Lib.hid hr
  obtain ⟨A, cap, rfl, hcap, hs⟩ := h
  clear hs hr
  obtain ⟨n1, hnx⟩ : ∃ n1, n1 = xs.length := ⟨_, rfl⟩
  rw [← hnx] at hcap h40 HX0 ⊢
  have HN := Lib.hid hnx
  clear hnx
  go_enter Try.func3, Try.ntmps3
  go_wp2_with fail
  refine (alive_any w0).mono ?_
  rintro e w1 ⟨rfl, hb⟩
  have HX1 := Lib.hid (HX0.out.below hb)
  have HB1 := Lib.hid (Below.step HB0.out hb)
  clear hb
  go_wp2_with fail
  refine (new_no w1 z hz).mono ?_
  rintro e w2 ⟨rfl, hb⟩
  have HX2 := Lib.hid (HX1.out.below hb)
  have HB2 := Lib.hid (Below.step HB1.out hb)
  clear hb
  rcases hz with hz | hz
  all_goals
    go_wp2_with fail
    refine (of_no _ xs w2 HX2.out (by have := H40.out; omega) HR.out).mono ?_
    rintro e w3 ⟨rfl, hb⟩
    have HX3 := Lib.hid (HX2.out.below hb)
    have HB3 := Lib.hid (Below.step HB2.out hb)
    clear hb
    have hrb := refRight_any _ xs w3 HX3.out (by have := H40.out; omega)
    rw [rightB_no.2 HR.out] at hrb
    have HRB := Lib.hid hrb
    clear hrb
    go_wp2_with fail
    refine (HRB.out).mono ?_
    rintro e wx ⟨rfl, rfl⟩
    go_wp2
    go_ret
    exact ⟨rfl, HB3.out⟩

set_option maxRecDepth 100000 in
set_option maxHeartbeats 1000000 in
theorem makes_no_in (w0 : World) (z : Int) (v : Value) (xs : List Int) (k : Nat) (m : Int) (h : SI w0 v xs) (h40 : xs.length ≤ 40) (hz : z < 0 ∨ 16 < z) (hr : Rt xs) (hk : k < xs.length) : Calls Try.prog 3 #[.int .i64 z, v, .int .i64 (k : Int), .int .i64 m] w0 (RetV w0 (.bool true)) := by
  have HX0 := Lib.hid (h)
  have HB0 := Lib.hid (Below.refl w0.heap.size w0)
  have H40 := Lib.hid h40
  have HR := Lib.hid hr
  obtain ⟨A, cap, rfl, hcap, hs⟩ := h
  clear hs hr
  have HK := Lib.hid (List.getElem?_eq_getElem hk)
  generalize xs[k] = y at *
  obtain ⟨n1, hnx⟩ : ∃ n1, n1 = xs.length := ⟨_, rfl⟩
  rw [← hnx] at hcap h40 HX0 hk ⊢
  have HN := Lib.hid hnx
  clear hnx
  have hk0 : (k : Int) < (n1 : Int) := by omega
  have hk1 : 0 ≤ (k : Int) := by omega
  go_enter Try.func3, Try.ntmps3
  go_wp2_with fail
  refine (alive_any w0).mono ?_
  rintro e w1 ⟨rfl, hb⟩
  have HX1 := Lib.hid (HX0.out.below hb)
  have HB1 := Lib.hid (Below.step HB0.out hb)
  clear hb
  go_wp2_with fail
  refine (new_no w1 z hz).mono ?_
  rintro e w2 ⟨rfl, hb⟩
  have HX2 := Lib.hid (HX1.out.below hb)
  have HB2 := Lib.hid (Below.step HB1.out hb)
  clear hb
  rcases hz with hz | hz
  all_goals
    go_wp2_with fail
    refine (of_yes _ xs w2 HX2.out HR.out).mono ?_
    rintro e w3 ⟨g, rfl, hg, ho, hb⟩
    have HX3 := Lib.hid (HX2.out.below hb)
    have HB3 := Lib.hid (Below.step HB2.out hb)
    have HO3 := Lib.hid (ho)
    clear hb ho hg
    have hrb := refRight_any _ xs w3 HX3.out (by have := H40.out; omega)
    rw [rightB_iff.2 HR.out] at hrb
    have HRB := Lib.hid hrb
    clear hrb
    go_wp2_with fail
    refine (HRB.out).mono ?_
    rintro e wx ⟨rfl, rfl⟩
    go_wp2_with fail
    refine (refAt_any _ xs m w3 HX3.out (by have := H40.out; omega)).mono ?_
    rintro e wx ⟨rfl, rfl⟩
    obtain ⟨A', cap', e', _, hs'⟩ := HX3.out
    injection e' with e1 e2 e3
    subst e1
    obtain ⟨ad, rfl, hbl, hcell⟩ := hs' k (.int .i64 y) (is_at HK.out)
    clear hs' e2 e3
    have HVA := Lib.hid (vars_any w3 g xs HO3.out)
    rw [← HN.out] at HVA
    go_wp2_with fail
    refine (HVA.out).mono ?_
    rintro e wx ⟨rfl, rfl⟩
    go_wp2_with fail
    refine (var_yes w3 g xs k y HO3.out HK.out).mono ?_
    rintro e wx ⟨rfl, rfl⟩
    have HLV := Lib.hid (level_any w3 g xs m HO3.out)
    generalize at_ xs m = am at *
    go_wp2_with fail
    refine (HLV.out).mono ?_
    rintro e wx ⟨rfl, rfl⟩
    go_wp2_with fail
    refine (perm_any w3 g xs HO3.out).mono ?_
    rintro e w4 ⟨qv, rfl, hown, hb⟩
    have HX4 := Lib.hid (HX3.out.below hb)
    have HB4 := Lib.hid (Below.step HB3.out hb)
    have HO4 := Lib.hid (HO3.out.below hb)
    have HQ4 := Lib.hid (hown.si)
    clear hb hown
    have hd : decide (xs = xs) = true := decide_eq_true rfl
    have hsame := refSame_any qv _ xs xs w4 HQ4.out HX4.out (by have := H40.out; omega) (by have := H40.out; omega)
    rw [hd] at hsame
    have HSM := Lib.hid hsame
    clear hd hsame
    go_wp2_with fail
    refine (HSM.out).mono ?_
    rintro e w5 ⟨rfl, hb⟩
    have HX5 := Lib.hid (HX4.out.below hb)
    have HB5 := Lib.hid (Below.step HB4.out hb)
    have HO5 := Lib.hid (HO4.out.below hb)
    have HQ5 := Lib.hid (HQ4.out.below hb)
    clear hb
    go_wp2
    go_ret
    exact ⟨rfl, HB5.out⟩

set_option maxRecDepth 100000 in
set_option maxHeartbeats 1000000 in
theorem makes_no_out (w0 : World) (z : Int) (v : Value) (xs : List Int) (l : Int) (m : Int) (h : SI w0 v xs) (h40 : xs.length ≤ 40) (hz : z < 0 ∨ 16 < z) (hr : Rt xs) (hl : ¬ (0 ≤ l ∧ l < xs.length)) : Calls Try.prog 3 #[.int .i64 z, v, .int .i64 l, .int .i64 m] w0 (RetV w0 (.bool true)) := by
  have HX0 := Lib.hid (h)
  have HB0 := Lib.hid (Below.refl w0.heap.size w0)
  have H40 := Lib.hid h40
  have HR := Lib.hid hr
  obtain ⟨A, cap, rfl, hcap, hs⟩ := h
  clear hs hr
  obtain ⟨n1, hnx⟩ : ∃ n1, n1 = xs.length := ⟨_, rfl⟩
  rw [← hnx] at hcap h40 HX0 hl ⊢
  have HN := Lib.hid hnx
  clear hnx
  have HLO := Lib.hid hl
  clear hl
  go_enter Try.func3, Try.ntmps3
  go_wp2_with fail
  refine (alive_any w0).mono ?_
  rintro e w1 ⟨rfl, hb⟩
  have HX1 := Lib.hid (HX0.out.below hb)
  have HB1 := Lib.hid (Below.step HB0.out hb)
  clear hb
  go_wp2_with fail
  refine (new_no w1 z hz).mono ?_
  rintro e w2 ⟨rfl, hb⟩
  have HX2 := Lib.hid (HX1.out.below hb)
  have HB2 := Lib.hid (Below.step HB1.out hb)
  clear hb
  rcases hz with hz | hz
  all_goals
    go_wp2_with fail
    refine (of_yes _ xs w2 HX2.out HR.out).mono ?_
    rintro e w3 ⟨g, rfl, hg, ho, hb⟩
    have HX3 := Lib.hid (HX2.out.below hb)
    have HB3 := Lib.hid (Below.step HB2.out hb)
    have HO3 := Lib.hid (ho)
    clear hb ho hg
    have hrb := refRight_any _ xs w3 HX3.out (by have := H40.out; omega)
    rw [rightB_iff.2 HR.out] at hrb
    have HRB := Lib.hid hrb
    clear hrb
    go_wp2_with fail
    refine (HRB.out).mono ?_
    rintro e wx ⟨rfl, rfl⟩
    go_wp2_with fail
    refine (refAt_any _ xs m w3 HX3.out (by have := H40.out; omega)).mono ?_
    rintro e wx ⟨rfl, rfl⟩
    have hlo : ¬ (0 ≤ l) ∨ ¬ (l < (n1 : Int)) := by have := HLO.out; omega
    rcases hlo with hlo | hlo
    all_goals
      have HVA := Lib.hid (vars_any w3 g xs HO3.out)
      rw [← HN.out] at HVA
      go_wp2_with fail
      refine (HVA.out).mono ?_
      rintro e wx ⟨rfl, rfl⟩
      go_wp2_with fail
      refine (var_no w3 g xs l HO3.out (by have := HN.out; have := HLO.out; omega)).mono ?_
      rintro e wx ⟨rfl, rfl⟩
      have HLV := Lib.hid (level_any w3 g xs m HO3.out)
      generalize at_ xs m = am at *
      go_wp2_with fail
      refine (HLV.out).mono ?_
      rintro e wx ⟨rfl, rfl⟩
      go_wp2_with fail
      refine (perm_any w3 g xs HO3.out).mono ?_
      rintro e w4 ⟨qv, rfl, hown, hb⟩
      have HX4 := Lib.hid (HX3.out.below hb)
      have HB4 := Lib.hid (Below.step HB3.out hb)
      have HO4 := Lib.hid (HO3.out.below hb)
      have HQ4 := Lib.hid (hown.si)
      clear hb hown
      have hd : decide (xs = xs) = true := decide_eq_true rfl
      have hsame := refSame_any qv _ xs xs w4 HQ4.out HX4.out (by have := H40.out; omega) (by have := H40.out; omega)
      rw [hd] at hsame
      have HSM := Lib.hid hsame
      clear hd hsame
      go_wp2_with fail
      refine (HSM.out).mono ?_
      rintro e w5 ⟨rfl, hb⟩
      have HX5 := Lib.hid (HX4.out.below hb)
      have HB5 := Lib.hid (Below.step HB4.out hb)
      have HO5 := Lib.hid (HO4.out.below hb)
      have HQ5 := Lib.hid (HQ4.out.below hb)
      clear hb
      go_wp2
      go_ret
      exact ⟨rfl, HB5.out⟩

set_option maxRecDepth 100000 in
set_option maxHeartbeats 1000000 in
theorem makes_yes_no (w0 : World) (n : Nat) (v : Value) (xs : List Int) (l : Int) (m : Int) (h : SI w0 v xs) (h40 : xs.length ≤ 40) (hn : n ≤ 16) (hr : ¬ Rt xs) : Calls Try.prog 3 #[.int .i64 (n : Int), v, .int .i64 l, .int .i64 m] w0 (RetV w0 (.bool true)) := by
  have HX0 := Lib.hid (h)
  have HB0 := Lib.hid (Below.refl w0.heap.size w0)
  have H40 := Lib.hid h40
  have HR := Lib.hid hr
  obtain ⟨A, cap, rfl, hcap, hs⟩ := h
  clear hs hr
  obtain ⟨n1, hnx⟩ : ∃ n1, n1 = xs.length := ⟨_, rfl⟩
  rw [← hnx] at hcap h40 HX0 ⊢
  have HN := Lib.hid hnx
  clear hnx
  go_enter Try.func3, Try.ntmps3
  go_wp2_with fail
  refine (alive_any w0).mono ?_
  rintro e w1 ⟨rfl, hb⟩
  have HX1 := Lib.hid (HX0.out.below hb)
  have HB1 := Lib.hid (Below.step HB0.out hb)
  clear hb
  go_wp2_with fail
  refine (new_yes w1 n hn).mono ?_
  rintro e w2 ⟨ga, rfl, hg, ho, hb⟩
  have HX2 := Lib.hid (HX1.out.below hb)
  have HB2 := Lib.hid (Below.step HB1.out hb)
  have HA2 := Lib.hid (ho)
  clear hb ho hg
  have hn0 : 0 ≤ (n : Int) := by omega
  have hn1 : (n : Int) ≤ 16 := by omega
  go_wp2_with fail
  refine (perm_any w2 ga (rng n) HA2.out).mono ?_
  rintro e w3 ⟨pv, rfl, hown, hb⟩
  have HX3 := Lib.hid (HX2.out.below hb)
  have HB3 := Lib.hid (Below.step HB2.out hb)
  have HA3 := Lib.hid (HA2.out.below hb)
  have HP3 := Lib.hid (hown.si)
  clear hb hown
  go_wp2_with fail
  refine (refSelf_any n w3 hn).mono ?_
  rintro e w4 ⟨sv, rfl, hown, hb⟩
  have HX4 := Lib.hid (HX3.out.below hb)
  have HB4 := Lib.hid (Below.step HB3.out hb)
  have HA4 := Lib.hid (HA3.out.below hb)
  have HP4 := Lib.hid (HP3.out.below hb)
  have HS4 := Lib.hid (hown.si)
  clear hb hown
  have hlen := rng_len n
  have hd : decide (rng n = rng n) = true := decide_eq_true rfl
  have hsame := refSame_any pv sv (rng n) (rng n) w4 HP4.out HS4.out (by omega) (by omega)
  rw [hd] at hsame
  have HSAME := Lib.hid hsame
  clear hlen hd hsame
  go_wp2_with fail
  refine (HSAME.out).mono ?_
  rintro e w5 ⟨rfl, hb⟩
  have HX5 := Lib.hid (HX4.out.below hb)
  have HB5 := Lib.hid (Below.step HB4.out hb)
  have HA5 := Lib.hid (HA4.out.below hb)
  have HP5 := Lib.hid (HP4.out.below hb)
  have HS5 := Lib.hid (HS4.out.below hb)
  clear hb
  go_wp2_with fail
  refine (of_no _ xs w5 HX5.out (by have := H40.out; omega) HR.out).mono ?_
  rintro e w6 ⟨rfl, hb⟩
  have HX6 := Lib.hid (HX5.out.below hb)
  have HB6 := Lib.hid (Below.step HB5.out hb)
  have HA6 := Lib.hid (HA5.out.below hb)
  have HP6 := Lib.hid (HP5.out.below hb)
  have HS6 := Lib.hid (HS5.out.below hb)
  clear hb
  have hrb := refRight_any _ xs w6 HX6.out (by have := H40.out; omega)
  rw [rightB_no.2 HR.out] at hrb
  have HRB := Lib.hid hrb
  clear hrb
  go_wp2_with fail
  refine (HRB.out).mono ?_
  rintro e wx ⟨rfl, rfl⟩
  go_wp2
  go_ret
  exact ⟨rfl, HB6.out⟩

set_option maxRecDepth 100000 in
set_option maxHeartbeats 1000000 in
theorem makes_yes_in (w0 : World) (n : Nat) (v : Value) (xs : List Int) (k : Nat) (m : Int) (h : SI w0 v xs) (h40 : xs.length ≤ 40) (hn : n ≤ 16) (hr : Rt xs) (hk : k < xs.length) : Calls Try.prog 3 #[.int .i64 (n : Int), v, .int .i64 (k : Int), .int .i64 m] w0 (RetV w0 (.bool true)) := by
  have HX0 := Lib.hid (h)
  have HB0 := Lib.hid (Below.refl w0.heap.size w0)
  have H40 := Lib.hid h40
  have HR := Lib.hid hr
  obtain ⟨A, cap, rfl, hcap, hs⟩ := h
  clear hs hr
  have HK := Lib.hid (List.getElem?_eq_getElem hk)
  generalize xs[k] = y at *
  obtain ⟨n1, hnx⟩ : ∃ n1, n1 = xs.length := ⟨_, rfl⟩
  rw [← hnx] at hcap h40 HX0 hk ⊢
  have HN := Lib.hid hnx
  clear hnx
  have hk0 : (k : Int) < (n1 : Int) := by omega
  have hk1 : 0 ≤ (k : Int) := by omega
  go_enter Try.func3, Try.ntmps3
  go_wp2_with fail
  refine (alive_any w0).mono ?_
  rintro e w1 ⟨rfl, hb⟩
  have HX1 := Lib.hid (HX0.out.below hb)
  have HB1 := Lib.hid (Below.step HB0.out hb)
  clear hb
  go_wp2_with fail
  refine (new_yes w1 n hn).mono ?_
  rintro e w2 ⟨ga, rfl, hg, ho, hb⟩
  have HX2 := Lib.hid (HX1.out.below hb)
  have HB2 := Lib.hid (Below.step HB1.out hb)
  have HA2 := Lib.hid (ho)
  clear hb ho hg
  have hn0 : 0 ≤ (n : Int) := by omega
  have hn1 : (n : Int) ≤ 16 := by omega
  go_wp2_with fail
  refine (perm_any w2 ga (rng n) HA2.out).mono ?_
  rintro e w3 ⟨pv, rfl, hown, hb⟩
  have HX3 := Lib.hid (HX2.out.below hb)
  have HB3 := Lib.hid (Below.step HB2.out hb)
  have HA3 := Lib.hid (HA2.out.below hb)
  have HP3 := Lib.hid (hown.si)
  clear hb hown
  go_wp2_with fail
  refine (refSelf_any n w3 hn).mono ?_
  rintro e w4 ⟨sv, rfl, hown, hb⟩
  have HX4 := Lib.hid (HX3.out.below hb)
  have HB4 := Lib.hid (Below.step HB3.out hb)
  have HA4 := Lib.hid (HA3.out.below hb)
  have HP4 := Lib.hid (HP3.out.below hb)
  have HS4 := Lib.hid (hown.si)
  clear hb hown
  have hlen := rng_len n
  have hd : decide (rng n = rng n) = true := decide_eq_true rfl
  have hsame := refSame_any pv sv (rng n) (rng n) w4 HP4.out HS4.out (by omega) (by omega)
  rw [hd] at hsame
  have HSAME := Lib.hid hsame
  clear hlen hd hsame
  go_wp2_with fail
  refine (HSAME.out).mono ?_
  rintro e w5 ⟨rfl, hb⟩
  have HX5 := Lib.hid (HX4.out.below hb)
  have HB5 := Lib.hid (Below.step HB4.out hb)
  have HA5 := Lib.hid (HA4.out.below hb)
  have HP5 := Lib.hid (HP4.out.below hb)
  have HS5 := Lib.hid (HS4.out.below hb)
  clear hb
  go_wp2_with fail
  refine (of_yes _ xs w5 HX5.out HR.out).mono ?_
  rintro e w6 ⟨g, rfl, hg, ho, hb⟩
  have HX6 := Lib.hid (HX5.out.below hb)
  have HB6 := Lib.hid (Below.step HB5.out hb)
  have HA6 := Lib.hid (HA5.out.below hb)
  have HP6 := Lib.hid (HP5.out.below hb)
  have HS6 := Lib.hid (HS5.out.below hb)
  have HO6 := Lib.hid (ho)
  clear hb ho hg
  have hrb := refRight_any _ xs w6 HX6.out (by have := H40.out; omega)
  rw [rightB_iff.2 HR.out] at hrb
  have HRB := Lib.hid hrb
  clear hrb
  go_wp2_with fail
  refine (HRB.out).mono ?_
  rintro e wx ⟨rfl, rfl⟩
  go_wp2_with fail
  refine (refAt_any _ xs m w6 HX6.out (by have := H40.out; omega)).mono ?_
  rintro e wx ⟨rfl, rfl⟩
  obtain ⟨A', cap', e', _, hs'⟩ := HX6.out
  injection e' with e1 e2 e3
  subst e1
  obtain ⟨ad, rfl, hbl, hcell⟩ := hs' k (.int .i64 y) (is_at HK.out)
  clear hs' e2 e3
  have HVA := Lib.hid (vars_any w6 g xs HO6.out)
  rw [← HN.out] at HVA
  go_wp2_with fail
  refine (HVA.out).mono ?_
  rintro e wx ⟨rfl, rfl⟩
  go_wp2_with fail
  refine (var_yes w6 g xs k y HO6.out HK.out).mono ?_
  rintro e wx ⟨rfl, rfl⟩
  have HLV := Lib.hid (level_any w6 g xs m HO6.out)
  generalize at_ xs m = am at *
  go_wp2_with fail
  refine (HLV.out).mono ?_
  rintro e wx ⟨rfl, rfl⟩
  go_wp2_with fail
  refine (perm_any w6 g xs HO6.out).mono ?_
  rintro e w7 ⟨qv, rfl, hown, hb⟩
  have HX7 := Lib.hid (HX6.out.below hb)
  have HB7 := Lib.hid (Below.step HB6.out hb)
  have HA7 := Lib.hid (HA6.out.below hb)
  have HP7 := Lib.hid (HP6.out.below hb)
  have HS7 := Lib.hid (HS6.out.below hb)
  have HO7 := Lib.hid (HO6.out.below hb)
  have HQ7 := Lib.hid (hown.si)
  clear hb hown
  have hd : decide (xs = xs) = true := decide_eq_true rfl
  have hsame := refSame_any qv _ xs xs w7 HQ7.out HX7.out (by have := H40.out; omega) (by have := H40.out; omega)
  rw [hd] at hsame
  have HSM := Lib.hid hsame
  clear hd hsame
  go_wp2_with fail
  refine (HSM.out).mono ?_
  rintro e w8 ⟨rfl, hb⟩
  have HX8 := Lib.hid (HX7.out.below hb)
  have HB8 := Lib.hid (Below.step HB7.out hb)
  have HA8 := Lib.hid (HA7.out.below hb)
  have HP8 := Lib.hid (HP7.out.below hb)
  have HS8 := Lib.hid (HS7.out.below hb)
  have HO8 := Lib.hid (HO7.out.below hb)
  have HQ8 := Lib.hid (HQ7.out.below hb)
  clear hb
  go_wp2
  go_ret
  exact ⟨rfl, HB8.out⟩

set_option maxRecDepth 100000 in
set_option maxHeartbeats 1000000 in
theorem makes_yes_out (w0 : World) (n : Nat) (v : Value) (xs : List Int) (l : Int) (m : Int) (h : SI w0 v xs) (h40 : xs.length ≤ 40) (hn : n ≤ 16) (hr : Rt xs) (hl : ¬ (0 ≤ l ∧ l < xs.length)) : Calls Try.prog 3 #[.int .i64 (n : Int), v, .int .i64 l, .int .i64 m] w0 (RetV w0 (.bool true)) := by
  have HX0 := Lib.hid (h)
  have HB0 := Lib.hid (Below.refl w0.heap.size w0)
  have H40 := Lib.hid h40
  have HR := Lib.hid hr
  obtain ⟨A, cap, rfl, hcap, hs⟩ := h
  clear hs hr
  obtain ⟨n1, hnx⟩ : ∃ n1, n1 = xs.length := ⟨_, rfl⟩
  rw [← hnx] at hcap h40 HX0 hl ⊢
  have HN := Lib.hid hnx
  clear hnx
  have HLO := Lib.hid hl
  clear hl
  go_enter Try.func3, Try.ntmps3
  go_wp2_with fail
  refine (alive_any w0).mono ?_
  rintro e w1 ⟨rfl, hb⟩
  have HX1 := Lib.hid (HX0.out.below hb)
  have HB1 := Lib.hid (Below.step HB0.out hb)
  clear hb
  go_wp2_with fail
  refine (new_yes w1 n hn).mono ?_
  rintro e w2 ⟨ga, rfl, hg, ho, hb⟩
  have HX2 := Lib.hid (HX1.out.below hb)
  have HB2 := Lib.hid (Below.step HB1.out hb)
  have HA2 := Lib.hid (ho)
  clear hb ho hg
  have hn0 : 0 ≤ (n : Int) := by omega
  have hn1 : (n : Int) ≤ 16 := by omega
  go_wp2_with fail
  refine (perm_any w2 ga (rng n) HA2.out).mono ?_
  rintro e w3 ⟨pv, rfl, hown, hb⟩
  have HX3 := Lib.hid (HX2.out.below hb)
  have HB3 := Lib.hid (Below.step HB2.out hb)
  have HA3 := Lib.hid (HA2.out.below hb)
  have HP3 := Lib.hid (hown.si)
  clear hb hown
  go_wp2_with fail
  refine (refSelf_any n w3 hn).mono ?_
  rintro e w4 ⟨sv, rfl, hown, hb⟩
  have HX4 := Lib.hid (HX3.out.below hb)
  have HB4 := Lib.hid (Below.step HB3.out hb)
  have HA4 := Lib.hid (HA3.out.below hb)
  have HP4 := Lib.hid (HP3.out.below hb)
  have HS4 := Lib.hid (hown.si)
  clear hb hown
  have hlen := rng_len n
  have hd : decide (rng n = rng n) = true := decide_eq_true rfl
  have hsame := refSame_any pv sv (rng n) (rng n) w4 HP4.out HS4.out (by omega) (by omega)
  rw [hd] at hsame
  have HSAME := Lib.hid hsame
  clear hlen hd hsame
  go_wp2_with fail
  refine (HSAME.out).mono ?_
  rintro e w5 ⟨rfl, hb⟩
  have HX5 := Lib.hid (HX4.out.below hb)
  have HB5 := Lib.hid (Below.step HB4.out hb)
  have HA5 := Lib.hid (HA4.out.below hb)
  have HP5 := Lib.hid (HP4.out.below hb)
  have HS5 := Lib.hid (HS4.out.below hb)
  clear hb
  go_wp2_with fail
  refine (of_yes _ xs w5 HX5.out HR.out).mono ?_
  rintro e w6 ⟨g, rfl, hg, ho, hb⟩
  have HX6 := Lib.hid (HX5.out.below hb)
  have HB6 := Lib.hid (Below.step HB5.out hb)
  have HA6 := Lib.hid (HA5.out.below hb)
  have HP6 := Lib.hid (HP5.out.below hb)
  have HS6 := Lib.hid (HS5.out.below hb)
  have HO6 := Lib.hid (ho)
  clear hb ho hg
  have hrb := refRight_any _ xs w6 HX6.out (by have := H40.out; omega)
  rw [rightB_iff.2 HR.out] at hrb
  have HRB := Lib.hid hrb
  clear hrb
  go_wp2_with fail
  refine (HRB.out).mono ?_
  rintro e wx ⟨rfl, rfl⟩
  go_wp2_with fail
  refine (refAt_any _ xs m w6 HX6.out (by have := H40.out; omega)).mono ?_
  rintro e wx ⟨rfl, rfl⟩
  have hlo : ¬ (0 ≤ l) ∨ ¬ (l < (n1 : Int)) := by have := HLO.out; omega
  rcases hlo with hlo | hlo
  all_goals
    have HVA := Lib.hid (vars_any w6 g xs HO6.out)
    rw [← HN.out] at HVA
    go_wp2_with fail
    refine (HVA.out).mono ?_
    rintro e wx ⟨rfl, rfl⟩
    go_wp2_with fail
    refine (var_no w6 g xs l HO6.out (by have := HN.out; have := HLO.out; omega)).mono ?_
    rintro e wx ⟨rfl, rfl⟩
    have HLV := Lib.hid (level_any w6 g xs m HO6.out)
    generalize at_ xs m = am at *
    go_wp2_with fail
    refine (HLV.out).mono ?_
    rintro e wx ⟨rfl, rfl⟩
    go_wp2_with fail
    refine (perm_any w6 g xs HO6.out).mono ?_
    rintro e w7 ⟨qv, rfl, hown, hb⟩
    have HX7 := Lib.hid (HX6.out.below hb)
    have HB7 := Lib.hid (Below.step HB6.out hb)
    have HA7 := Lib.hid (HA6.out.below hb)
    have HP7 := Lib.hid (HP6.out.below hb)
    have HS7 := Lib.hid (HS6.out.below hb)
    have HO7 := Lib.hid (HO6.out.below hb)
    have HQ7 := Lib.hid (hown.si)
    clear hb hown
    have hd : decide (xs = xs) = true := decide_eq_true rfl
    have hsame := refSame_any qv _ xs xs w7 HQ7.out HX7.out (by have := H40.out; omega) (by have := H40.out; omega)
    rw [hd] at hsame
    have HSM := Lib.hid hsame
    clear hd hsame
    go_wp2_with fail
    refine (HSM.out).mono ?_
    rintro e w8 ⟨rfl, hb⟩
    have HX8 := Lib.hid (HX7.out.below hb)
    have HB8 := Lib.hid (Below.step HB7.out hb)
    have HA8 := Lib.hid (HA7.out.below hb)
    have HP8 := Lib.hid (HP7.out.below hb)
    have HS8 := Lib.hid (HS7.out.below hb)
    have HO8 := Lib.hid (HO7.out.below hb)
    have HQ8 := Lib.hid (HQ7.out.below hb)
    clear hb
    go_wp2
    go_ret
    exact ⟨rfl, HB8.out⟩

set_option maxRecDepth 100000 in
theorem makes_long (w0 : World) (z : Int) (v : Value) (xs : List Int) (l m : Int) (h : SI w0 v xs) (h40 : 40 < xs.length) : Calls Try.prog 3 #[.int .i64 z, v, .int .i64 l, .int .i64 m] w0 (RetV w0 (.bool true)) := by
  obtain ⟨A, cap, rfl, hcap, hs⟩ := h
  clear hs
  generalize xs.length = n1 at *
  go_enter Try.func3, Try.ntmps3
  go_wp2_with fail
  refine (alive_any w0).mono ?_
  rintro e w1 ⟨rfl, hb⟩
  have HB := Lib.hid hb
  clear hb
  go_wp2
  go_ret
  exact ⟨rfl, HB.out⟩
theorem makes_any (w0 : World) (z : Int) (v : Value) (xs : List Int) (l m : Int) (h : SI w0 v xs) : Calls Try.prog 3 #[.int .i64 z, v, .int .i64 l, .int .i64 m] w0 (RetV w0 (.bool true)) := by
  rcases Nat.lt_or_ge 40 xs.length with h40 | h40
  · exact makes_long w0 z v xs l m h h40
  · by_cases hz : z < 0 ∨ 16 < z
    · by_cases hr : Rt xs
      · by_cases hl : 0 ≤ l ∧ l < xs.length
        · obtain ⟨k, rfl⟩ := Int.eq_ofNat_of_zero_le hl.1
          exact makes_no_in w0 z v xs k m h h40 hz hr (by omega)
        · exact makes_no_out w0 z v xs l m h h40 hz hr hl
      · exact makes_no_no w0 z v xs l m h h40 hz hr
    · obtain ⟨n, rfl⟩ := Int.eq_ofNat_of_zero_le (show 0 ≤ z by omega)
      by_cases hr : Rt xs
      · by_cases hl : 0 ≤ l ∧ l < xs.length
        · obtain ⟨k, rfl⟩ := Int.eq_ofNat_of_zero_le hl.1
          exact makes_yes_in w0 n v xs k m h h40 (by omega) hr (by omega)
        · exact makes_yes_out w0 n v xs l m h h40 (by omega) hr hl
      · exact makes_yes_no w0 n v xs l m h h40 (by omega) hr
end Go.Proofs.Ytldpmbifngeopaa

