/- Oddness and ranks. -/
import Derived.Test.YtlmpiadmgjfaiaaRead2
namespace Go.Proofs.Ytlmpiadmgjfaiaa
open Go.RowKit PermMath

def OddTo (n : Nat) (xs : List Int) (p i : Value) : Prop := ∃ (k q : Nat), k ≤ n ∧ i = .int .i64 (k : Int) ∧ p = .int .i64 (q : Int) ∧ q + inv (xs.drop k) = inv xs

set_option maxRecDepth 100000 in
set_option maxHeartbeats 400000 in
theorem odd_any (v : Value) (xs : List Int) (w : World) (h : SI w v xs) (hn : xs.length ≤ 9223372036854775807) :
    Calls Try.prog 16 #[v] w (fun e w' => e = .returned (.bool (rightB xs && decide (inv xs % 2 = 1))) ∧ w = w') := by
  have HR := Lib.hid (right_any v xs w h hn)
  by_cases hr : Rt xs
  · rw [rightB_iff.2 hr] at HR ⊢
    have hl := fun i x (hx : xs[i]? = some x) => less_any v xs i x w h hx hr.1
    have HL := Lib.hid hl
    clear hl
    obtain ⟨A, cap, rfl, hcap, hs⟩ := h
    clear hs
    have h16 := hr.1
    have hinv : inv xs ≤ 256 := Nat.le_trans (inv_le xs) (Nat.mul_le_mul h16 h16)
    obtain ⟨n, hnx⟩ : ∃ n, n = xs.length := ⟨_, rfl⟩
    rw [← hnx] at hcap hn h16 HR HL ⊢
    have HN := Lib.hid hnx
    clear hnx hr
    go_enter Try.func16, Try.ntmps16
    go_wp2_with fail
    refine HR.out.mono ?_
    rintro e w1 ⟨rfl, rfl⟩
    go_wp2
    go_loop [3, 10] (OddTo n xs) (fun _ i => n - (intOf i).toNat)
    case atStart => exact ⟨0, 0, Nat.zero_le _, rfl, rfl, by simp⟩
    case round =>
      obtain ⟨k, q, hk, rfl, rfl, hq⟩ := hrel
      have hq256 : q ≤ 256 := by omega
      by_cases hlt : k < n
      · obtain ⟨x, hxk⟩ : ∃ x, xs[k]? = some x := ⟨xs[k]'(by have := HN.out; omega), List.getElem?_eq_getElem _⟩
        have hl := HL.out k x hxk
        rw [drop_cons hxk] at hq
        simp only [inv] at hq
        generalize (xs.drop (k + 1)).countP (· < x) = c at *
        have hc : c ≤ 256 := by omega
        have HQ := Lib.hid hq
        have HLL := Lib.hid hl
        clear hq hl hxk
        go_wp2_with fail
        refine HLL.out.mono ?_
        rintro e w1 ⟨rfl, rfl⟩
        go_wp2
        go_round
        case rel => exact ⟨k + 1, q + c, by omega, by go_num, by go_num, by have := HQ.out; omega⟩
        case measure => simp [intOf]; omega
      · have hd : xs.drop k = [] := List.drop_eq_nil_of_le (by have := HN.out; omega)
        rw [hd] at hq
        have HQ := Lib.hid hq
        clear hq hd
        go_wp2
        go_ret
        refine ⟨ret_bool ?_, rfl⟩
        have := HQ.out
        simp only [inv, Nat.add_zero] at this
        rw [← this]
        by_cases h1 : q % 2 = 1
        · rw [decide_eq_true h1, beq_iff_eq]; omega
        · rw [decide_eq_false h1, beq_eq_false_iff_ne]; omega
  · rw [rightB_no.2 hr] at HR ⊢
    rw [Bool.false_and]
    obtain ⟨A, cap, rfl, hcap, hs⟩ := h
    clear hs hr
    generalize xs.length = n at *
    go_enter Try.func16, Try.ntmps16
    go_wp2_with fail
    refine HR.out.mono ?_
    rintro e w1 ⟨rfl, rfl⟩
    go_wp2
    go_ret
    exact ⟨rfl, rfl⟩

def RankTo (n : Nat) (xs : List Int) (p i : Value) : Prop := ∃ (k q : Nat), k ≤ n ∧ i = .int .i64 (k : Int) ∧ p = .int .i64 (q : Int) ∧ q + rk (xs.drop k) = rk xs

set_option maxRecDepth 100000 in
set_option maxHeartbeats 400000 in
theorem rank_no (v : Value) (xs : List Int) (w : World) (h : SI w v xs) (hn : xs.length ≤ 9223372036854775807) (hr : ¬ Rt xs) :
    Calls Try.prog 24 #[v] w (fun e w' => e = .returned (.tuple #[.int .i64 0, .bool false]) ∧ w = w') := by
  have HR := Lib.hid (right_any v xs w h hn)
  rw [rightB_no.2 hr] at HR
  obtain ⟨A, cap, rfl, hcap, hs⟩ := h
  clear hs hr
  generalize xs.length = n at *
  go_enter Try.func24, Try.ntmps24
  go_wp2_with fail
  refine HR.out.mono ?_
  rintro e w1 ⟨rfl, rfl⟩
  go_wp2
  go_ret2
  exact ⟨rfl, rfl⟩

set_option maxRecDepth 100000 in
set_option maxHeartbeats 400000 in
theorem rank_yes (v : Value) (xs : List Int) (w : World) (h : SI w v xs) (hr : Rt xs) :
    Calls Try.prog 24 #[v] w (fun e w' => e = .returned (.tuple #[.int .i64 ((rk xs : Nat) : Int), .bool true]) ∧ w = w') := by
  have h16 := hr.1
  have HR := Lib.hid (right_any v xs w h (by omega))
  rw [rightB_iff.2 hr] at HR
  have hl := fun i x (hx : xs[i]? = some x) => less_any v xs i x w h hx hr.1
  have HL := Lib.hid hl
  clear hl
  obtain ⟨A, cap, rfl, hcap, hs⟩ := h
  clear hs
  have hrk : rk xs ≤ 20922789888000 := Nat.le_trans (Nat.le_of_lt (rk_lt xs)) (fac_small h16)
  obtain ⟨n, hnx⟩ : ∃ n, n = xs.length := ⟨_, rfl⟩
  rw [← hnx] at hcap h16 HR HL ⊢
  have HN := Lib.hid hnx
  have HRK := Lib.hid hrk
  clear hnx hr hrk
  go_enter Try.func24, Try.ntmps24
  go_wp2_with fail
  refine HR.out.mono ?_
  rintro e w1 ⟨rfl, rfl⟩
  go_wp2
  go_loop [4, 11] (RankTo n xs) (fun _ i => n - (intOf i).toNat)
  case atStart => exact ⟨0, 0, Nat.zero_le _, rfl, rfl, by simp⟩
  case round =>
    obtain ⟨k, q, hk, rfl, rfl, hq⟩ := hrel
    have hq0 : (q : Int) ≤ 20922789888000 := by have := HRK.out; omega
    by_cases hlt : k < n
    · obtain ⟨x, hxk⟩ : ∃ x, xs[k]? = some x := ⟨xs[k]'(by have := HN.out; omega), List.getElem?_eq_getElem _⟩
      have hl := HL.out k x hxk
      have hf := fact_any ((n : Int) - 1 - (k : Int)) w (by omega) (by omega)
      have hlen : ((n : Int) - 1 - (k : Int)).toNat = (xs.drop (k + 1)).length := by rw [List.length_drop, ← HN.out]; omega
      rw [hlen] at hf
      rw [drop_cons hxk] at hq
      simp only [rk] at hq
      generalize (xs.drop (k + 1)).countP (· < x) = c at *
      generalize fac (xs.drop (k + 1)).length = f at *
      have hcf : (c : Int) * (f : Int) ≤ 20922789888000 := by
        have h1 := HRK.out
        have h2 : c * f ≤ 20922789888000 := by omega
        have h3 := Int.ofNat_le.2 h2
        rw [Int.natCast_mul] at h3
        exact h3
      have hcf0 : 0 ≤ (c : Int) * (f : Int) := by
        have h3 := Int.natCast_nonneg (c * f)
        rwa [Int.natCast_mul] at h3
      have HQ := Lib.hid hq
      have HLL := Lib.hid hl
      have HF := Lib.hid hf
      clear hq hl hxk hf hlen
      go_wp2_with fail
      refine HLL.out.mono ?_
      rintro e w1 ⟨rfl, rfl⟩
      go_wp2_with fail
      refine HF.out.mono ?_
      rintro e w1 ⟨rfl, rfl⟩
      go_wp2
      go_round
      case rel => exact ⟨k + 1, q + c * f, by omega, by go_num, by go_num, by have := HQ.out; omega⟩
      case measure => simp [intOf]; omega
    · have hd : xs.drop k = [] := List.drop_eq_nil_of_le (by have := HN.out; omega)
      rw [hd] at hq
      have HQ := Lib.hid hq
      clear hq hd
      go_wp2
      go_ret2
      have := HQ.out
      simp only [rk, Nat.add_zero] at this
      exact ⟨by rw [← this]; rfl, rfl⟩

end Go.Proofs.Ytlmpiadmgjfaiaa
