/- The walk of the statement PermRight: it answers true. -/
import Derived.Test.YtlmpiadmgjfaiaaAlive
import Derived.Test.YtlmpiadmgjfaiaaRead3
namespace Go.Proofs.Ytlmpiadmgjfaiaa
open Go.RowKit PermMath

def UpTo (n : Nat) (i : Value) : Prop := ∃ k : Nat, k ≤ n ∧ i = .int .i64 (k : Int)

set_option maxRecDepth 100000 in
set_option maxHeartbeats 1000000 in
theorem law3_no_neg (v : Value) (xs : List Int) (z : Int) (w : World) (h : SI w v xs) (hn : xs.length ≤ 40) (hr : ¬ Rt xs) (hz : z < 0) : Calls Try.prog 3 #[v, .int .i64 z] w (RetV w (.bool true)) := by
  have HR := Lib.hid (fun w1 (hb : Below w.heap.size w w1) => refRight_any v xs w1 (h.below hb) (by omega))
  have HP := Lib.hid (fun w1 (hb : Below w.heap.size w w1) => right_any v xs w1 (h.below hb) (by omega))
  have HO := Lib.hid (fun w1 (hb : Below w.heap.size w w1) => odd_any v xs w1 (h.below hb) (by omega))
  have HI := Lib.hid (fun w1 (hb : Below w.heap.size w w1) => inverse_no v xs w1 (h.below hb) (by omega) hr)
  rw [rightB_no.2 hr] at HR HP HO
  rw [Bool.false_and] at HO
  have HS := Lib.hid (fun w1 => same_no z w1 (Or.inl hz))
  obtain ⟨A, cap, rfl, hcap, hs⟩ := h
  have HSE := Lib.hid hs
  clear hs hr
  obtain ⟨n, hnx⟩ : ∃ n, n = xs.length := ⟨_, rfl⟩
  rw [← hnx] at hcap hn HR HP HO HI ⊢
  have HN := Lib.hid hnx
  clear hnx
  go_enter Try.func3, Try.ntmps3
  go_wp2_with fail
  refine (alive_any w).mono ?_
  rintro e w1 ⟨rfl, hb1⟩
  go_wp2_with fail
  refine (HR.out w1 hb1).mono ?_
  rintro e w2 ⟨rfl, rfl⟩
  go_wp2_with fail
  refine (HI.out w1 hb1).mono ?_
  rintro e w2 ⟨rfl, hb2⟩
  have hbw2 := Below.step hb1 hb2
  clear hb1 hb2
  go_wp2_with fail
  refine (HS.out w2).mono ?_
  rintro e w5 ⟨rfl, hb3⟩
  have hbw5 := Below.step hbw2 hb3
  clear hb3 hbw2
  go_wp2_with fail
  refine (HP.out w5 hbw5).mono ?_
  rintro e w6 ⟨rfl, rfl⟩
  go_wp2_with fail
  refine (HO.out w5 hbw5).mono ?_
  rintro e w6 ⟨rfl, rfl⟩
  go_wp2
  go_ret
  exact ⟨rfl, hbw5⟩

set_option maxRecDepth 100000 in
set_option maxHeartbeats 1000000 in
theorem law3_no_big (v : Value) (xs : List Int) (z : Int) (w : World) (h : SI w v xs) (hn : xs.length ≤ 40) (hr : ¬ Rt xs) (hz0 : 0 ≤ z) (hz : 16 < z) : Calls Try.prog 3 #[v, .int .i64 z] w (RetV w (.bool true)) := by
  have HR := Lib.hid (fun w1 (hb : Below w.heap.size w w1) => refRight_any v xs w1 (h.below hb) (by omega))
  have HP := Lib.hid (fun w1 (hb : Below w.heap.size w w1) => right_any v xs w1 (h.below hb) (by omega))
  have HO := Lib.hid (fun w1 (hb : Below w.heap.size w w1) => odd_any v xs w1 (h.below hb) (by omega))
  have HI := Lib.hid (fun w1 (hb : Below w.heap.size w w1) => inverse_no v xs w1 (h.below hb) (by omega) hr)
  rw [rightB_no.2 hr] at HR HP HO
  rw [Bool.false_and] at HO
  have HS := Lib.hid (fun w1 => same_no z w1 (Or.inr hz))
  have hzn : ¬ z < 0 := by omega
  obtain ⟨A, cap, rfl, hcap, hs⟩ := h
  have HSE := Lib.hid hs
  clear hs hr
  obtain ⟨n, hnx⟩ : ∃ n, n = xs.length := ⟨_, rfl⟩
  rw [← hnx] at hcap hn HR HP HO HI ⊢
  have HN := Lib.hid hnx
  clear hnx
  go_enter Try.func3, Try.ntmps3
  go_wp2_with fail
  refine (alive_any w).mono ?_
  rintro e w1 ⟨rfl, hb1⟩
  go_wp2_with fail
  refine (HR.out w1 hb1).mono ?_
  rintro e w2 ⟨rfl, rfl⟩
  go_wp2_with fail
  refine (HI.out w1 hb1).mono ?_
  rintro e w2 ⟨rfl, hb2⟩
  have hbw2 := Below.step hb1 hb2
  clear hb1 hb2
  go_wp2_with fail
  refine (HS.out w2).mono ?_
  rintro e w5 ⟨rfl, hb3⟩
  have hbw5 := Below.step hbw2 hb3
  clear hb3 hbw2
  go_wp2_with fail
  refine (HP.out w5 hbw5).mono ?_
  rintro e w6 ⟨rfl, rfl⟩
  go_wp2_with fail
  refine (HO.out w5 hbw5).mono ?_
  rintro e w6 ⟨rfl, rfl⟩
  go_wp2
  go_ret
  exact ⟨rfl, hbw5⟩

set_option maxRecDepth 100000 in
set_option maxHeartbeats 1000000 in
theorem law3_no_in (v : Value) (xs : List Int) (m : Nat) (w : World) (h : SI w v xs) (hn : xs.length ≤ 40) (hr : ¬ Rt xs) (hm : m ≤ 16) : Calls Try.prog 3 #[v, .int .i64 (m : Int)] w (RetV w (.bool true)) := by
  have HR := Lib.hid (fun w1 (hb : Below w.heap.size w w1) => refRight_any v xs w1 (h.below hb) (by omega))
  have HP := Lib.hid (fun w1 (hb : Below w.heap.size w w1) => right_any v xs w1 (h.below hb) (by omega))
  have HO := Lib.hid (fun w1 (hb : Below w.heap.size w w1) => odd_any v xs w1 (h.below hb) (by omega))
  have HI := Lib.hid (fun w1 (hb : Below w.heap.size w w1) => inverse_no v xs w1 (h.below hb) (by omega) hr)
  rw [rightB_no.2 hr] at HR HP HO
  rw [Bool.false_and] at HO
  have HS := Lib.hid (fun w1 => same_yes m w1 hm)
  have HF := Lib.hid (fun w1 => refSelf_any m w1 hm)
  obtain ⟨A, cap, rfl, hcap, hs⟩ := h
  have HSE := Lib.hid hs
  clear hs hr
  obtain ⟨n, hnx⟩ : ∃ n, n = xs.length := ⟨_, rfl⟩
  rw [← hnx] at hcap hn HR HP HO HI ⊢
  have HN := Lib.hid hnx
  clear hnx
  go_enter Try.func3, Try.ntmps3
  go_wp2_with fail
  refine (alive_any w).mono ?_
  rintro e w1 ⟨rfl, hb1⟩
  go_wp2_with fail
  refine (HR.out w1 hb1).mono ?_
  rintro e w2 ⟨rfl, rfl⟩
  go_wp2_with fail
  refine (HI.out w1 hb1).mono ?_
  rintro e w2 ⟨rfl, hb2⟩
  have hbw2 := Below.step hb1 hb2
  clear hb1 hb2
  go_wp2_with fail
  refine (HS.out w2).mono ?_
  rintro e w3 ⟨v3, rfl, hown3, hb3⟩
  have HO3 := Lib.hid hown3
  have hbw3 := Below.step hbw2 hb3
  clear hown3 hb3 hbw2
  go_wp2_with fail
  refine (HF.out w3).mono ?_
  rintro e w4 ⟨v4, rfl, hown4, hb4⟩
  have hs5 := refSame_any v3 v4 (rng m) (rng m) w4 (HO3.out.below hb4).si hown4.si (by rw [rng_len]; omega) (by rw [rng_len]; omega)
  rw [decide_eq_true rfl] at hs5
  have HS5 := Lib.hid hs5
  have hbw4 := Below.step hbw3 hb4
  clear hs5 hown4 hb4 hbw3
  go_wp2_with fail
  refine HS5.out.mono ?_
  rintro e w5 ⟨rfl, hb5⟩
  have hbw5 := Below.step hbw4 hb5
  clear hb5 hbw4
  go_wp2_with fail
  refine (HP.out w5 hbw5).mono ?_
  rintro e w6 ⟨rfl, rfl⟩
  go_wp2_with fail
  refine (HO.out w5 hbw5).mono ?_
  rintro e w6 ⟨rfl, rfl⟩
  go_wp2
  go_ret
  exact ⟨rfl, hbw5⟩

set_option maxRecDepth 100000 in
set_option maxHeartbeats 1000000 in
theorem law3_yes_neg (v : Value) (xs : List Int) (z : Int) (w : World) (h : SI w v xs) (hn : xs.length ≤ 40) (hr : Rt xs) (hz : z < 0) : Calls Try.prog 3 #[v, .int .i64 z] w (RetV w (.bool true)) := by
  have HR := Lib.hid (fun w1 (hb : Below w.heap.size w w1) => refRight_any v xs w1 (h.below hb) (by omega))
  have HP := Lib.hid (fun w1 (hb : Below w.heap.size w w1) => right_any v xs w1 (h.below hb) (by omega))
  have HO := Lib.hid (fun w1 (hb : Below w.heap.size w w1) => odd_any v xs w1 (h.below hb) (by omega))
  have HI := Lib.hid (fun w1 (hb : Below w.heap.size w w1) => inverse_yes v xs w1 (h.below hb) hr)
  have HQ := Lib.hid (fun w1 (hb : Below w.heap.size w w1) => refPairs_any v xs w1 (h.below hb) hn)
  rw [rightB_iff.2 hr] at HR HP HO
  obtain ⟨b, hb01⟩ : ∃ b : Bool, b = decide (inv xs % 2 = 1) := ⟨_, rfl⟩
  have hbi : (((inv xs : Nat) : Int) % 2 == 1) = b := by
    rw [hb01]
    by_cases h1 : inv xs % 2 = 1
    · rw [decide_eq_true h1, beq_iff_eq]; omega
    · rw [decide_eq_false h1, beq_eq_false_iff_ne]; omega
  rw [← hb01, Bool.true_and] at HO
  have hinv : inv xs ≤ 1600 := Nat.le_trans (inv_le xs) (Nat.mul_le_mul hn hn)
  clear hb01
  generalize inv xs = iv at *
  have hat := fun (k : Nat) (x : Int) (hk : xs[k]? = some x) => bck_at hr hk
  have hix := fun (k : Nat) (x : Int) (hk : xs[k]? = some x) => hr.at hk
  have hbl := bck_len xs
  generalize bck xs = bk at *
  have HAT := Lib.hid hat
  have HIX := Lib.hid hix
  clear hat hix
  have HS := Lib.hid (fun w1 => same_no z w1 (Or.inl hz))
  obtain ⟨A, cap, rfl, hcap, hs⟩ := h
  have HSE := Lib.hid hs
  clear hs hr
  obtain ⟨n, hnx⟩ : ∃ n, n = xs.length := ⟨_, rfl⟩
  rw [← hnx] at hcap hn HR HP HO HI HQ HIX hbl ⊢
  have HBL := Lib.hid hbl
  clear hbl
  have HN := Lib.hid hnx
  clear hnx
  go_enter Try.func3, Try.ntmps3
  go_wp2_with fail
  refine (alive_any w).mono ?_
  rintro e w1 ⟨rfl, hb1⟩
  go_wp2_with fail
  refine (HR.out w1 hb1).mono ?_
  rintro e w2 ⟨rfl, rfl⟩
  go_wp2_with fail
  refine (HI.out w1 hb1).mono ?_
  rintro e w2 ⟨v2, rfl, hown2, hb2⟩
  obtain ⟨A2, c2, rfl, _⟩ := own_slice hown2
  have HO2 := Lib.hid hown2
  have hbw2 := Below.step hb1 hb2
  clear hb1 hb2 hown2
  go_wp2_with fail
  refine (HS.out w2).mono ?_
  rintro e w5 ⟨rfl, hb3⟩
  have hbw5 := Below.step hbw2 hb3
  have HO25 := Lib.hid (HO2.out.below hb3)
  clear hb3 hbw2
  go_wp2_with fail
  refine (HP.out w5 hbw5).mono ?_
  rintro e w6 ⟨rfl, rfl⟩
  go_wp2_with fail
  refine (HO.out w5 hbw5).mono ?_
  rintro e w6 ⟨rfl, rfl⟩
  go_wp2_with fail
  refine (HQ.out w5 hbw5).mono ?_
  rintro e w6 ⟨rfl, hb6⟩
  have hbw6 := Below.step hbw5 hb6
  have HO26 := Lib.hid (HO25.out.below hb6)
  have HSE6 := Lib.hid (HSE.out.below hbw6)
  clear hb6 hbw5
  rw [HBL.out]
  cases b
  · go_wp2
    go_loop [10] (UpTo n) (fun i => n - (intOf i).toNat)
    case atStart => exact ⟨0, Nat.zero_le _, rfl⟩
    case round =>
      obtain ⟨k, hk, rfl⟩ := hrel
      by_cases hlt : k < n
      · obtain ⟨x, hxk⟩ : ∃ x, xs[k]? = some x := ⟨xs[k]'(by have := HN.out; omega), List.getElem?_eq_getElem _⟩
        obtain ⟨ad, rfl, hbl, hcell⟩ := HSE6.out k (.int .i64 x) (is_at hxk)
        obtain ⟨hx0, hxn⟩ := HIX.out k x hxk
        have hq := HAT.out k x hxk
        obtain ⟨j, rfl⟩ := Int.eq_ofNat_of_zero_le hx0
        rw [Int.toNat_natCast] at hq
        obtain ⟨ad2, rfl, _, hcell2⟩ := (Sees.own HO26.out) j (.int .i64 (k : Int)) (is_at hq)
        clear hxk hq
        go_wp2
        go_round
        case rel => exact ⟨k + 1, by omega, by go_num⟩
        case measure => simp [intOf]; omega
      · go_wp2
        go_ret
        exact ⟨rfl, hbw6⟩
  · go_wp2
    go_loop [10] (UpTo n) (fun i => n - (intOf i).toNat)
    case atStart => exact ⟨0, Nat.zero_le _, rfl⟩
    case round =>
      obtain ⟨k, hk, rfl⟩ := hrel
      by_cases hlt : k < n
      · obtain ⟨x, hxk⟩ : ∃ x, xs[k]? = some x := ⟨xs[k]'(by have := HN.out; omega), List.getElem?_eq_getElem _⟩
        obtain ⟨ad, rfl, hbl, hcell⟩ := HSE6.out k (.int .i64 x) (is_at hxk)
        obtain ⟨hx0, hxn⟩ := HIX.out k x hxk
        have hq := HAT.out k x hxk
        obtain ⟨j, rfl⟩ := Int.eq_ofNat_of_zero_le hx0
        rw [Int.toNat_natCast] at hq
        obtain ⟨ad2, rfl, _, hcell2⟩ := (Sees.own HO26.out) j (.int .i64 (k : Int)) (is_at hq)
        clear hxk hq
        go_wp2
        go_round
        case rel => exact ⟨k + 1, by omega, by go_num⟩
        case measure => simp [intOf]; omega
      · go_wp2
        go_ret
        exact ⟨rfl, hbw6⟩

set_option maxRecDepth 100000 in
set_option maxHeartbeats 1000000 in
theorem law3_yes_big (v : Value) (xs : List Int) (z : Int) (w : World) (h : SI w v xs) (hn : xs.length ≤ 40) (hr : Rt xs) (hz0 : 0 ≤ z) (hz : 16 < z) : Calls Try.prog 3 #[v, .int .i64 z] w (RetV w (.bool true)) := by
  have HR := Lib.hid (fun w1 (hb : Below w.heap.size w w1) => refRight_any v xs w1 (h.below hb) (by omega))
  have HP := Lib.hid (fun w1 (hb : Below w.heap.size w w1) => right_any v xs w1 (h.below hb) (by omega))
  have HO := Lib.hid (fun w1 (hb : Below w.heap.size w w1) => odd_any v xs w1 (h.below hb) (by omega))
  have HI := Lib.hid (fun w1 (hb : Below w.heap.size w w1) => inverse_yes v xs w1 (h.below hb) hr)
  have HQ := Lib.hid (fun w1 (hb : Below w.heap.size w w1) => refPairs_any v xs w1 (h.below hb) hn)
  rw [rightB_iff.2 hr] at HR HP HO
  obtain ⟨b, hb01⟩ : ∃ b : Bool, b = decide (inv xs % 2 = 1) := ⟨_, rfl⟩
  have hbi : (((inv xs : Nat) : Int) % 2 == 1) = b := by
    rw [hb01]
    by_cases h1 : inv xs % 2 = 1
    · rw [decide_eq_true h1, beq_iff_eq]; omega
    · rw [decide_eq_false h1, beq_eq_false_iff_ne]; omega
  rw [← hb01, Bool.true_and] at HO
  have hinv : inv xs ≤ 1600 := Nat.le_trans (inv_le xs) (Nat.mul_le_mul hn hn)
  clear hb01
  generalize inv xs = iv at *
  have hat := fun (k : Nat) (x : Int) (hk : xs[k]? = some x) => bck_at hr hk
  have hix := fun (k : Nat) (x : Int) (hk : xs[k]? = some x) => hr.at hk
  have hbl := bck_len xs
  generalize bck xs = bk at *
  have HAT := Lib.hid hat
  have HIX := Lib.hid hix
  clear hat hix
  have HS := Lib.hid (fun w1 => same_no z w1 (Or.inr hz))
  have hzn : ¬ z < 0 := by omega
  obtain ⟨A, cap, rfl, hcap, hs⟩ := h
  have HSE := Lib.hid hs
  clear hs hr
  obtain ⟨n, hnx⟩ : ∃ n, n = xs.length := ⟨_, rfl⟩
  rw [← hnx] at hcap hn HR HP HO HI HQ HIX hbl ⊢
  have HBL := Lib.hid hbl
  clear hbl
  have HN := Lib.hid hnx
  clear hnx
  go_enter Try.func3, Try.ntmps3
  go_wp2_with fail
  refine (alive_any w).mono ?_
  rintro e w1 ⟨rfl, hb1⟩
  go_wp2_with fail
  refine (HR.out w1 hb1).mono ?_
  rintro e w2 ⟨rfl, rfl⟩
  go_wp2_with fail
  refine (HI.out w1 hb1).mono ?_
  rintro e w2 ⟨v2, rfl, hown2, hb2⟩
  obtain ⟨A2, c2, rfl, _⟩ := own_slice hown2
  have HO2 := Lib.hid hown2
  have hbw2 := Below.step hb1 hb2
  clear hb1 hb2 hown2
  go_wp2_with fail
  refine (HS.out w2).mono ?_
  rintro e w5 ⟨rfl, hb3⟩
  have hbw5 := Below.step hbw2 hb3
  have HO25 := Lib.hid (HO2.out.below hb3)
  clear hb3 hbw2
  go_wp2_with fail
  refine (HP.out w5 hbw5).mono ?_
  rintro e w6 ⟨rfl, rfl⟩
  go_wp2_with fail
  refine (HO.out w5 hbw5).mono ?_
  rintro e w6 ⟨rfl, rfl⟩
  go_wp2_with fail
  refine (HQ.out w5 hbw5).mono ?_
  rintro e w6 ⟨rfl, hb6⟩
  have hbw6 := Below.step hbw5 hb6
  have HO26 := Lib.hid (HO25.out.below hb6)
  have HSE6 := Lib.hid (HSE.out.below hbw6)
  clear hb6 hbw5
  rw [HBL.out]
  cases b
  · go_wp2
    go_loop [10] (UpTo n) (fun i => n - (intOf i).toNat)
    case atStart => exact ⟨0, Nat.zero_le _, rfl⟩
    case round =>
      obtain ⟨k, hk, rfl⟩ := hrel
      by_cases hlt : k < n
      · obtain ⟨x, hxk⟩ : ∃ x, xs[k]? = some x := ⟨xs[k]'(by have := HN.out; omega), List.getElem?_eq_getElem _⟩
        obtain ⟨ad, rfl, hbl, hcell⟩ := HSE6.out k (.int .i64 x) (is_at hxk)
        obtain ⟨hx0, hxn⟩ := HIX.out k x hxk
        have hq := HAT.out k x hxk
        obtain ⟨j, rfl⟩ := Int.eq_ofNat_of_zero_le hx0
        rw [Int.toNat_natCast] at hq
        obtain ⟨ad2, rfl, _, hcell2⟩ := (Sees.own HO26.out) j (.int .i64 (k : Int)) (is_at hq)
        clear hxk hq
        go_wp2
        go_round
        case rel => exact ⟨k + 1, by omega, by go_num⟩
        case measure => simp [intOf]; omega
      · go_wp2
        go_ret
        exact ⟨rfl, hbw6⟩
  · go_wp2
    go_loop [10] (UpTo n) (fun i => n - (intOf i).toNat)
    case atStart => exact ⟨0, Nat.zero_le _, rfl⟩
    case round =>
      obtain ⟨k, hk, rfl⟩ := hrel
      by_cases hlt : k < n
      · obtain ⟨x, hxk⟩ : ∃ x, xs[k]? = some x := ⟨xs[k]'(by have := HN.out; omega), List.getElem?_eq_getElem _⟩
        obtain ⟨ad, rfl, hbl, hcell⟩ := HSE6.out k (.int .i64 x) (is_at hxk)
        obtain ⟨hx0, hxn⟩ := HIX.out k x hxk
        have hq := HAT.out k x hxk
        obtain ⟨j, rfl⟩ := Int.eq_ofNat_of_zero_le hx0
        rw [Int.toNat_natCast] at hq
        obtain ⟨ad2, rfl, _, hcell2⟩ := (Sees.own HO26.out) j (.int .i64 (k : Int)) (is_at hq)
        clear hxk hq
        go_wp2
        go_round
        case rel => exact ⟨k + 1, by omega, by go_num⟩
        case measure => simp [intOf]; omega
      · go_wp2
        go_ret
        exact ⟨rfl, hbw6⟩

set_option maxRecDepth 100000 in
set_option maxHeartbeats 1000000 in
theorem law3_yes_in (v : Value) (xs : List Int) (m : Nat) (w : World) (h : SI w v xs) (hn : xs.length ≤ 40) (hr : Rt xs) (hm : m ≤ 16) : Calls Try.prog 3 #[v, .int .i64 (m : Int)] w (RetV w (.bool true)) := by
  have HR := Lib.hid (fun w1 (hb : Below w.heap.size w w1) => refRight_any v xs w1 (h.below hb) (by omega))
  have HP := Lib.hid (fun w1 (hb : Below w.heap.size w w1) => right_any v xs w1 (h.below hb) (by omega))
  have HO := Lib.hid (fun w1 (hb : Below w.heap.size w w1) => odd_any v xs w1 (h.below hb) (by omega))
  have HI := Lib.hid (fun w1 (hb : Below w.heap.size w w1) => inverse_yes v xs w1 (h.below hb) hr)
  have HQ := Lib.hid (fun w1 (hb : Below w.heap.size w w1) => refPairs_any v xs w1 (h.below hb) hn)
  rw [rightB_iff.2 hr] at HR HP HO
  obtain ⟨b, hb01⟩ : ∃ b : Bool, b = decide (inv xs % 2 = 1) := ⟨_, rfl⟩
  have hbi : (((inv xs : Nat) : Int) % 2 == 1) = b := by
    rw [hb01]
    by_cases h1 : inv xs % 2 = 1
    · rw [decide_eq_true h1, beq_iff_eq]; omega
    · rw [decide_eq_false h1, beq_eq_false_iff_ne]; omega
  rw [← hb01, Bool.true_and] at HO
  have hinv : inv xs ≤ 1600 := Nat.le_trans (inv_le xs) (Nat.mul_le_mul hn hn)
  clear hb01
  generalize inv xs = iv at *
  have hat := fun (k : Nat) (x : Int) (hk : xs[k]? = some x) => bck_at hr hk
  have hix := fun (k : Nat) (x : Int) (hk : xs[k]? = some x) => hr.at hk
  have hbl := bck_len xs
  generalize bck xs = bk at *
  have HAT := Lib.hid hat
  have HIX := Lib.hid hix
  clear hat hix
  have HS := Lib.hid (fun w1 => same_yes m w1 hm)
  have HF := Lib.hid (fun w1 => refSelf_any m w1 hm)
  obtain ⟨A, cap, rfl, hcap, hs⟩ := h
  have HSE := Lib.hid hs
  clear hs hr
  obtain ⟨n, hnx⟩ : ∃ n, n = xs.length := ⟨_, rfl⟩
  rw [← hnx] at hcap hn HR HP HO HI HQ HIX hbl ⊢
  have HBL := Lib.hid hbl
  clear hbl
  have HN := Lib.hid hnx
  clear hnx
  go_enter Try.func3, Try.ntmps3
  go_wp2_with fail
  refine (alive_any w).mono ?_
  rintro e w1 ⟨rfl, hb1⟩
  go_wp2_with fail
  refine (HR.out w1 hb1).mono ?_
  rintro e w2 ⟨rfl, rfl⟩
  go_wp2_with fail
  refine (HI.out w1 hb1).mono ?_
  rintro e w2 ⟨v2, rfl, hown2, hb2⟩
  obtain ⟨A2, c2, rfl, _⟩ := own_slice hown2
  have HO2 := Lib.hid hown2
  have hbw2 := Below.step hb1 hb2
  clear hb1 hb2 hown2
  go_wp2_with fail
  refine (HS.out w2).mono ?_
  rintro e w3 ⟨v3, rfl, hown3, hb3⟩
  have HO3 := Lib.hid hown3
  have hbw3 := Below.step hbw2 hb3
  have HO23 := Lib.hid (HO2.out.below hb3)
  clear hown3 hb3 hbw2
  go_wp2_with fail
  refine (HF.out w3).mono ?_
  rintro e w4 ⟨v4, rfl, hown4, hb4⟩
  have hs5 := refSame_any v3 v4 (rng m) (rng m) w4 (HO3.out.below hb4).si hown4.si (by rw [rng_len]; omega) (by rw [rng_len]; omega)
  rw [decide_eq_true rfl] at hs5
  have HS5 := Lib.hid hs5
  have hbw4 := Below.step hbw3 hb4
  have HO24 := Lib.hid (HO23.out.below hb4)
  clear hs5 hown4 hb4 hbw3
  go_wp2_with fail
  refine HS5.out.mono ?_
  rintro e w5 ⟨rfl, hb5⟩
  have hbw5 := Below.step hbw4 hb5
  have HO25 := Lib.hid (HO24.out.below hb5)
  clear hb5 hbw4
  go_wp2_with fail
  refine (HP.out w5 hbw5).mono ?_
  rintro e w6 ⟨rfl, rfl⟩
  go_wp2_with fail
  refine (HO.out w5 hbw5).mono ?_
  rintro e w6 ⟨rfl, rfl⟩
  go_wp2_with fail
  refine (HQ.out w5 hbw5).mono ?_
  rintro e w6 ⟨rfl, hb6⟩
  have hbw6 := Below.step hbw5 hb6
  have HO26 := Lib.hid (HO25.out.below hb6)
  have HSE6 := Lib.hid (HSE.out.below hbw6)
  clear hb6 hbw5
  rw [HBL.out]
  cases b
  · go_wp2
    go_loop [10] (UpTo n) (fun i => n - (intOf i).toNat)
    case atStart => exact ⟨0, Nat.zero_le _, rfl⟩
    case round =>
      obtain ⟨k, hk, rfl⟩ := hrel
      by_cases hlt : k < n
      · obtain ⟨x, hxk⟩ : ∃ x, xs[k]? = some x := ⟨xs[k]'(by have := HN.out; omega), List.getElem?_eq_getElem _⟩
        obtain ⟨ad, rfl, hbl, hcell⟩ := HSE6.out k (.int .i64 x) (is_at hxk)
        obtain ⟨hx0, hxn⟩ := HIX.out k x hxk
        have hq := HAT.out k x hxk
        obtain ⟨j, rfl⟩ := Int.eq_ofNat_of_zero_le hx0
        rw [Int.toNat_natCast] at hq
        obtain ⟨ad2, rfl, _, hcell2⟩ := (Sees.own HO26.out) j (.int .i64 (k : Int)) (is_at hq)
        clear hxk hq
        go_wp2
        go_round
        case rel => exact ⟨k + 1, by omega, by go_num⟩
        case measure => simp [intOf]; omega
      · go_wp2
        go_ret
        exact ⟨rfl, hbw6⟩
  · go_wp2
    go_loop [10] (UpTo n) (fun i => n - (intOf i).toNat)
    case atStart => exact ⟨0, Nat.zero_le _, rfl⟩
    case round =>
      obtain ⟨k, hk, rfl⟩ := hrel
      by_cases hlt : k < n
      · obtain ⟨x, hxk⟩ : ∃ x, xs[k]? = some x := ⟨xs[k]'(by have := HN.out; omega), List.getElem?_eq_getElem _⟩
        obtain ⟨ad, rfl, hbl, hcell⟩ := HSE6.out k (.int .i64 x) (is_at hxk)
        obtain ⟨hx0, hxn⟩ := HIX.out k x hxk
        have hq := HAT.out k x hxk
        obtain ⟨j, rfl⟩ := Int.eq_ofNat_of_zero_le hx0
        rw [Int.toNat_natCast] at hq
        obtain ⟨ad2, rfl, _, hcell2⟩ := (Sees.own HO26.out) j (.int .i64 (k : Int)) (is_at hq)
        clear hxk hq
        go_wp2
        go_round
        case rel => exact ⟨k + 1, by omega, by go_num⟩
        case measure => simp [intOf]; omega
      · go_wp2
        go_ret
        exact ⟨rfl, hbw6⟩

set_option maxRecDepth 100000 in
set_option maxHeartbeats 800000 in
theorem law3_any (v : Value) (xs : List Int) (z : Int) (w : World) (h : SI w v xs) : Calls Try.prog 3 #[v, .int .i64 z] w (RetV w (.bool true)) := by
  by_cases h1 : 40 < xs.length
  · obtain ⟨A, cap, rfl, hcap, hs⟩ := h
    clear hs
    generalize xs.length = n at *
    go_enter Try.func3, Try.ntmps3
    go_wp2_with fail
    refine (alive_any w).mono ?_
    rintro e w1 ⟨rfl, hb1⟩
    go_wp2
    go_ret
    exact ⟨rfl, hb1⟩
  · by_cases hr : Rt xs
    · by_cases h0 : z < 0
      · exact law3_yes_neg v xs z w h (by omega) hr h0
      · by_cases h16 : 16 < z
        · exact law3_yes_big v xs z w h (by omega) hr (by omega) h16
        · obtain ⟨m, rfl⟩ := Int.eq_ofNat_of_zero_le (show 0 ≤ z by omega)
          exact law3_yes_in v xs m w h (by omega) hr (by omega)
    · by_cases h0 : z < 0
      · exact law3_no_neg v xs z w h (by omega) hr h0
      · by_cases h16 : 16 < z
        · exact law3_no_big v xs z w h (by omega) hr (by omega) h16
        · obtain ⟨m, rfl⟩ := Int.eq_ofNat_of_zero_le (show 0 ≤ z by omega)
          exact law3_no_in v xs m w h (by omega) hr (by omega)

end Go.Proofs.Ytlmpiadmgjfaiaa
