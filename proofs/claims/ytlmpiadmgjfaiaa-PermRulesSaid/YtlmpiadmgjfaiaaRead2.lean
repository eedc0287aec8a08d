/- Factorials, and how many numbers behind a place are less. -/
import Derived.Test.YtlmpiadmgjfaiaaRead1
import Derived.Test.YtlmpiadmgjfaiaaMath2
namespace Go.Proofs.Ytlmpiadmgjfaiaa
open Go.RowKit PermMath

def FacTo (n lo : Nat) (p i : Value) : Prop := ∃ (k q : Nat), lo ≤ k ∧ k ≤ n + lo ∧ i = .int .i64 (k : Int) ∧ p = .int .i64 (q : Int) ∧ q = fac (k - 1) ∧ (n < k → q = fac n)
theorem fac_next {k : Nat} (h : 1 ≤ k) : fac (k - 1) * k = fac (k + 1 - 1) := by
  obtain ⟨m, rfl⟩ : ∃ m, k = m + 1 := ⟨k - 1, (Nat.sub_add_cancel h).symm⟩
  show fac m * (m + 1) = (m + 1) * fac m
  exact Nat.mul_comm _ _
theorem fac_bound {k n : Nat} (h : 1 ≤ k) (hk : k ≤ n) (hn : n ≤ 16) : ((fac (k - 1) : Nat) : Int) * (k : Int) ≤ 20922789888000 := by
  have h1 := fac_next h
  have h2 := fac_small (n := k + 1 - 1) (by omega)
  rw [← h1] at h2
  have h3 := Int.ofNat_le.2 h2
  rw [Int.natCast_mul] at h3
  exact h3
theorem fac_one {k : Nat} (h : k ≤ 1) : fac k = 1 := by
  rcases Nat.le_one_iff_eq_zero_or_eq_one.1 h with rfl | rfl <;> rfl

set_option maxRecDepth 100000 in
set_option maxHeartbeats 400000 in
theorem fact_any (z : Int) (w : World) (h0 : 0 ≤ z) (h1 : z ≤ 16) :
    Calls Try.prog 34 #[.int .i64 z] w (fun e w' => e = .returned (.int .i64 ((fac z.toNat : Nat) : Int)) ∧ w = w') := by
  obtain ⟨n, rfl⟩ := Int.eq_ofNat_of_zero_le h0
  rw [Int.toNat_natCast]
  have hn : n ≤ 16 := by omega
  clear h0 h1
  go_enter Try.func34, Try.ntmps34
  go_wp2
  go_loop [3, 4] (FacTo n 2) (fun _ i => n + 2 - (intOf i).toNat)
  case atStart => exact ⟨2, 1, Nat.le_refl _, by omega, rfl, rfl, rfl, fun h => (fac_one (by omega)).symm⟩
  case round =>
    obtain ⟨k, q, hk, hkn, rfl, rfl, hq, hqn⟩ := hrel
    have HQ := Lib.hid hq
    have HQN := Lib.hid hqn
    clear hq hqn
    by_cases hlt : k ≤ n
    · have hb : (q : Int) * (k : Int) ≤ 20922789888000 := by rw [HQ.out]; exact fac_bound (by omega) hlt hn
      have hb0 : 0 ≤ (q : Int) * (k : Int) := by exact_mod_cast Nat.zero_le _
      go_wp2
      go_round
      case rel =>
        have e : q * k = fac (k + 1 - 1) := by rw [HQ.out]; exact fac_next (by omega)
        refine ⟨k + 1, q * k, by omega, by omega, by go_num, by go_num, e, fun h => ?_⟩
        rw [e]
        congr 1
        omega
      case measure => simp [intOf]; omega
    · go_wp2
      go_ret
      exact ⟨ret_int (by rw [HQN.out (by omega)]), rfl⟩

set_option maxRecDepth 100000 in
set_option maxHeartbeats 400000 in
theorem refAll_any (z : Int) (w : World) (h0 : 0 ≤ z) (h1 : z ≤ 16) :
    Calls Try.prog 27 #[.int .i64 z] w (fun e w' => e = .returned (.int .i64 ((fac z.toNat : Nat) : Int)) ∧ w = w') := by
  obtain ⟨n, rfl⟩ := Int.eq_ofNat_of_zero_le h0
  rw [Int.toNat_natCast]
  have hn : n ≤ 16 := by omega
  clear h0 h1
  go_enter Try.func27, Try.ntmps27
  go_wp2
  go_loop [3, 4] (FacTo n 1) (fun _ i => n + 2 - (intOf i).toNat)
  case atStart => exact ⟨1, 1, Nat.le_refl _, by omega, rfl, rfl, rfl, fun h => (fac_one (by omega)).symm⟩
  case round =>
    obtain ⟨k, q, hk, hkn, rfl, rfl, hq, hqn⟩ := hrel
    have HQ := Lib.hid hq
    have HQN := Lib.hid hqn
    clear hq hqn
    by_cases hlt : k ≤ n
    · have hb : (q : Int) * (k : Int) ≤ 20922789888000 := by rw [HQ.out]; exact fac_bound (by omega) hlt hn
      have hb0 : 0 ≤ (q : Int) * (k : Int) := by exact_mod_cast Nat.zero_le _
      go_wp2
      go_round
      case rel =>
        have e : q * k = fac (k + 1 - 1) := by rw [HQ.out]; exact fac_next (by omega)
        refine ⟨k + 1, q * k, by omega, by omega, by go_num, by go_num, e, fun h => ?_⟩
        rw [e]
        congr 1
        omega
      case measure => simp [intOf]; omega
    · go_wp2
      go_ret
      exact ⟨ret_int (by rw [HQN.out (by omega)]), rfl⟩

def LessTo (m : Nat) (ys : List Int) (x : Int) (c i : Value) : Prop := ∃ (k q : Nat), k ≤ m ∧ q ≤ k ∧ i = .int .i64 (k : Int) ∧ c = .int .i64 (q : Int) ∧ (ys.take k).countP (· < x) = q

set_option maxRecDepth 100000 in
set_option maxHeartbeats 400000 in
theorem less_any (v : Value) (xs : List Int) (i : Nat) (x : Int) (w : World) (h : SI w v xs) (hx : xs[i]? = some x) (hn : xs.length ≤ 16) :
    Calls Try.prog 30 #[v, .int .i64 (i : Int)] w (fun e w' => e = .returned (.int .i64 (((xs.drop (i + 1)).countP (· < x) : Nat) : Int)) ∧ w = w') := by
  obtain ⟨A, cap, rfl, hcap, hs⟩ := h
  have hi : i < xs.length := (List.getElem?_eq_some_iff.1 hx).1
  obtain ⟨ad, rfl, hbl, hcell⟩ := hs i (.int .i64 x) (is_at hx)
  have HS := Lib.hid hs
  clear hs hx
  obtain ⟨ys, hys⟩ : ∃ ys, ys = xs.drop (i + 1) := ⟨_, rfl⟩
  obtain ⟨m, hm⟩ : ∃ m, m = ys.length := ⟨_, rfl⟩
  obtain ⟨n, hnx⟩ : ∃ n, n = xs.length := ⟨_, rfl⟩
  rw [← hys]
  rw [← hnx] at hcap hn hi ⊢
  have hmn : n = i + 1 + m := by rw [hm, hys, List.length_drop, ← hnx]; omega
  subst hmn
  have HN := Lib.hid hnx
  have HM := Lib.hid hm
  have HY := Lib.hid hys
  clear hnx hm hys
  have hrd : ∀ j y, ys[j]? = some y → w.cell? (ad.add (i + 1 + j)) = some (.int .i64 y) := by
    intro j y hj
    rw [HY.out, List.getElem?_drop] at hj
    obtain ⟨ad', h1, _, h2⟩ := HS.out _ _ (is_at hj)
    injection h1 with h1
    subst h1
    exact h2
  have HRD := Lib.hid hrd
  clear hrd
  by_cases hck : cap = i + 1
  · obtain rfl : m = 0 := by omega
    subst hck
    have HZ : Hid (ys = []) := List.eq_nil_of_length_eq_zero HM.out.symm
    go_enter Try.func30, Try.ntmps30
    go_wp2
    go_loop [5, 13] (LessTo 0 ys x) (fun _ i => 0 - (intOf i).toNat)
    case atStart => exact ⟨0, 0, Nat.zero_le _, Nat.le_refl _, rfl, rfl, rfl⟩
    case round =>
      obtain ⟨k, q, hk, hq, rfl, rfl, hc⟩ := hrel
      have HC := Lib.hid hc
      clear hc
      obtain rfl : k = 0 := by omega
      obtain rfl : q = 0 := by omega
      go_wp2
      go_ret
      exact ⟨ret_int (by rw [HZ.out]; rfl), rfl⟩
  · go_enter Try.func30, Try.ntmps30
    go_wp2
    go_loop [5, 13] (LessTo m ys x) (fun _ i => m - (intOf i).toNat)
    case atStart => exact ⟨0, 0, Nat.zero_le _, Nat.le_refl _, rfl, rfl, rfl⟩
    case round =>
      obtain ⟨k, q, hk, hq, rfl, rfl, hc⟩ := hrel
      have HC := Lib.hid hc
      clear hc
      by_cases hlt : k < m
      · obtain ⟨y, hyk⟩ : ∃ y, ys[k]? = some y := ⟨ys[k]'(by have := HM.out; omega), List.getElem?_eq_getElem _⟩
        have hcy : w.cell? ⟨ad.block, ad.off + (i + 1) + k, none⟩ = some (.int .i64 y) := by
          have := HRD.out k y hyk
          rw [show ad.add (i + 1 + k) = ⟨ad.block, ad.off + (i + 1) + k, none⟩ by unfold Addr.add; rw [if_neg (by omega)]; congr 1; omega] at this
          exact this
        have HT := Lib.hid (take_snoc hyk)
        clear hyk
        by_cases hyx : y < x
        · go_wp2
          go_round
          case rel => exact ⟨k + 1, q + 1, by omega, by omega, by go_num, by go_num, by rw [HT.out, List.countP_append, HC.out]; simp [hyx]⟩
          case measure => simp [intOf]; omega
        · have hd : decide (y < x) = false := decide_eq_false hyx
          have HYX := Lib.hid hyx
          clear hyx
          go_wp2
          go_round
          case rel => exact ⟨k + 1, q, by omega, by omega, by go_num, rfl, by rw [HT.out, List.countP_append, HC.out]; simp [HYX.out]⟩
          case measure => simp [intOf]; omega
      · have HE : Hid (ys.countP (· < x) = q) := by
          have := HC.out
          rwa [List.take_of_length_le (by have := HM.out; omega)] at this
        go_wp2
        go_ret
        exact ⟨ret_int (by rw [HE.out]), rfl⟩

set_option maxRecDepth 100000 in
set_option maxHeartbeats 400000 in
/-- Two of one n. -/
theorem pair_any (v u : Value) (xs ys : List Int) (w : World) (h : SI w v xs) (h' : SI w u ys) (hn : xs.length ≤ 9223372036854775807) (hn' : ys.length ≤ 9223372036854775807) :
    Calls Try.prog 31 #[v, u] w (fun e w' => e = .returned (.bool (decide (xs.length = ys.length) && (rightB xs && rightB ys))) ∧ w = w') := by
  have H1 := Lib.hid (right_any v xs w h hn)
  have H2 := Lib.hid (right_any u ys w h' hn')
  obtain ⟨A, cap, rfl, hcap, hs⟩ := h
  obtain ⟨A', cap', rfl, hcap', hs'⟩ := h'
  clear hs hs'
  generalize rightB xs = a at *
  generalize rightB ys = b at *
  generalize xs.length = n at *
  generalize ys.length = n' at *
  by_cases hl : n = n'
  · subst hl
    have e : (decide (n = n) && (a && b)) = (a && b) := by simp
    rw [e]
    clear e
    cases a
    · go_enter Try.func31, Try.ntmps31
      go_wp2_with fail
      refine H1.out.mono ?_
      rintro e w1 ⟨rfl, rfl⟩
      go_wp2
      go_ret
      exact ⟨rfl, rfl⟩
    · go_enter Try.func31, Try.ntmps31
      go_wp2_with fail
      refine H1.out.mono ?_
      rintro e w1 ⟨rfl, rfl⟩
      go_wp2_with fail
      refine H2.out.mono ?_
      rintro e w1 ⟨rfl, rfl⟩
      go_wp2
      go_ret
      exact ⟨rfl, rfl⟩
  · rw [decide_eq_false hl, Bool.false_and]
    have hb : ((n : Int) == (n' : Int)) = false := by rw [beq_eq_false_iff_ne]; omega
    have hb2 : (n == n') = false := by rw [beq_eq_false_iff_ne]; omega
    clear hl
    go_enter Try.func31, Try.ntmps31
    go_wp2
    go_ret
    exact ⟨rfl, rfl⟩

end Go.Proofs.Ytlmpiadmgjfaiaa
