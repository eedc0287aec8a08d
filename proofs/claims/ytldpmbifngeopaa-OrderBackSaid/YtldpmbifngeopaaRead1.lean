/- Where a number stands (Index, Contains, At), which lists are permutations (Right, by the program and by the document). -/
import Derived.Test.YtldpmbifngeopaaBase
namespace Go.Proofs.Ytldpmbifngeopaa
open Go.RowKit PermMath

def NotYet (n : Nat) (xs : List Int) (z : Int) (i : Value) : Prop := ∃ k : Nat, k ≤ n ∧ i = .int .i64 (k : Int) ∧ z ∉ xs.take k
theorem notYet_next {xs : List Int} {z x : Int} {k : Nat} (h : z ∉ xs.take k) (hk : xs[k]? = some x) (hx : x ≠ z) : z ∉ xs.take (k + 1) := by
  rw [take_snoc hk, List.mem_append, List.mem_singleton]
  rintro (h1 | h1)
  · exact h h1
  · exact hx h1.symm

set_option maxRecDepth 100000 in
set_option maxHeartbeats 400000 in
theorem index_any (v : Value) (xs : List Int) (z : Int) (w : World) (h : SI w v xs) (hn : xs.length ≤ 9223372036854775807) :
    Calls Try.prog 36 #[v, .int .i64 z] w (fun e w' => e = .returned (.int .i64 (at_ xs z)) ∧ w = w') := by
  obtain ⟨A, cap, rfl, hcap, hs⟩ := h
  have HS := Lib.hid hs
  clear hs
  obtain ⟨n, hnx⟩ : ∃ n, n = xs.length := ⟨_, rfl⟩
  rw [← hnx] at hcap hn ⊢
  have HN := Lib.hid hnx
  clear hnx
  go_enter Try.func36, Try.ntmps36
  go_wp2
  go_loop [8] (NotYet n xs z) (fun i => n - (intOf i).toNat)
  case atStart => exact ⟨0, Nat.zero_le _, rfl, by simp⟩
  case round =>
    obtain ⟨k, hk, rfl, hno⟩ := hrel
    have HNO := Lib.hid hno
    clear hno
    by_cases hlt : k < n
    · obtain ⟨x, hxk⟩ : ∃ x, xs[k]? = some x := ⟨xs[k]'(by have := HN.out; omega), List.getElem?_eq_getElem _⟩
      obtain ⟨ad, rfl, hbl, hcell⟩ := HS.out k (.int .i64 x) (is_at hxk)
      have HXK := Lib.hid hxk
      clear hxk
      by_cases hx : x = z
      · subst hx
        go_wp2
        go_ret
        exact ⟨ret_int (at_found HXK.out HNO.out).symm, rfl⟩
      · have hxz : (z == x) = false := by rw [beq_eq_false_iff_ne]; exact fun e => hx e.symm
        have HX := Lib.hid hx
        clear hx
        go_wp2
        go_round
        case rel => exact ⟨k + 1, by omega, by go_num, notYet_next HNO.out HXK.out HX.out⟩
        case measure => simp [intOf]; omega
    · have hm : at_ xs z = -1 := at_not (by have := HNO.out; rwa [List.take_of_length_le (by have := HN.out; omega)] at this)
      have HM := Lib.hid hm
      clear hm
      go_wp2
      go_ret
      exact ⟨ret_int HM.out.symm, rfl⟩

set_option maxRecDepth 100000 in
set_option maxHeartbeats 400000 in
theorem refAt_any (v : Value) (xs : List Int) (z : Int) (w : World) (h : SI w v xs) (hn : xs.length ≤ 9223372036854775807) :
    Calls Try.prog 14 #[v, .int .i64 z] w (fun e w' => e = .returned (.int .i64 (at_ xs z)) ∧ w = w') := by
  obtain ⟨A, cap, rfl, hcap, hs⟩ := h
  have HS := Lib.hid hs
  clear hs
  obtain ⟨n, hnx⟩ : ∃ n, n = xs.length := ⟨_, rfl⟩
  rw [← hnx] at hcap hn ⊢
  have HN := Lib.hid hnx
  clear hnx
  go_enter Try.func14, Try.ntmps14
  go_wp2
  go_loop [5] (NotYet n xs z) (fun i => n - (intOf i).toNat)
  case atStart => exact ⟨0, Nat.zero_le _, rfl, by simp⟩
  case round =>
    obtain ⟨k, hk, rfl, hno⟩ := hrel
    have HNO := Lib.hid hno
    clear hno
    by_cases hlt : k < n
    · obtain ⟨x, hxk⟩ : ∃ x, xs[k]? = some x := ⟨xs[k]'(by have := HN.out; omega), List.getElem?_eq_getElem _⟩
      obtain ⟨ad, rfl, hbl, hcell⟩ := HS.out k (.int .i64 x) (is_at hxk)
      have HXK := Lib.hid hxk
      clear hxk
      by_cases hx : x = z
      · subst hx
        go_wp2
        go_ret
        exact ⟨ret_int (at_found HXK.out HNO.out).symm, rfl⟩
      · have hxz : (x == z) = false := by rw [beq_eq_false_iff_ne]; exact hx
        have HX := Lib.hid hx
        clear hx
        go_wp2
        go_round
        case rel => exact ⟨k + 1, by omega, by go_num, notYet_next HNO.out HXK.out HX.out⟩
        case measure => simp [intOf]; omega
    · have hm : at_ xs z = -1 := at_not (by have := HNO.out; rwa [List.take_of_length_le (by have := HN.out; omega)] at this)
      have HM := Lib.hid hm
      clear hm
      go_wp2
      go_ret
      exact ⟨ret_int HM.out.symm, rfl⟩

open Classical in
set_option maxRecDepth 100000 in
set_option maxHeartbeats 400000 in
theorem contains_any (v : Value) (xs : List Int) (z : Int) (w : World) (h : SI w v xs) (hn : xs.length ≤ 9223372036854775807) :
    Calls Try.prog 37 #[v, .int .i64 z] w (fun e w' => e = .returned (.bool (decide (z ∈ xs))) ∧ w = w') := by
  have HI := Lib.hid (index_any v xs z w h hn)
  have hd : decide (z ∈ xs) = decide (0 ≤ at_ xs z) := by
    by_cases hm : z ∈ xs
    · rw [decide_eq_true hm, decide_eq_true (by rw [at_mem hm]; omega)]
    · rw [decide_eq_false hm, decide_eq_false (by rw [at_not hm]; omega)]
  rw [hd]
  clear hd h hn
  generalize at_ xs z = y at *
  go_enter Try.func37, Try.ntmps37
  go_wp2_with fail
  refine HI.out.mono ?_
  rintro e w1 ⟨rfl, rfl⟩
  go_wp2
  go_ret
  exact ⟨by simp, rfl⟩

def AllIn (n : Nat) (xs : List Int) (i : Value) : Prop := ∃ k : Nat, k ≤ n ∧ i = .int .i64 (k : Int) ∧ ∀ j : Nat, j < k → (j : Int) ∈ xs

set_option maxRecDepth 100000 in
set_option maxHeartbeats 400000 in
theorem right_any (v : Value) (xs : List Int) (w : World) (h : SI w v xs) (hn : xs.length ≤ 9223372036854775807) :
    Calls Try.prog 35 #[v] w (fun e w' => e = .returned (.bool (rightB xs)) ∧ w = w') := by
  have hc := fun z w1 (e : w = w1) => contains_any v xs z w1 (e ▸ h) hn
  have HC := Lib.hid hc
  clear hc
  obtain ⟨A, cap, rfl, hcap, hs⟩ := h
  clear hs
  by_cases h16 : 16 < xs.length
  · have hf : rightB xs = false := rightB_no.2 (fun hr => by have := hr.1; omega)
    rw [hf]
    clear hf HC
    generalize xs.length = n at *
    go_enter Try.func35, Try.ntmps35
    go_wp2
    go_ret
    exact ⟨rfl, rfl⟩
  · obtain ⟨n, hnx⟩ : ∃ n, n = xs.length := ⟨_, rfl⟩
    rw [← hnx] at hcap hn h16 HC ⊢
    have HN := Lib.hid hnx
    clear hnx
    go_enter Try.func35, Try.ntmps35
    go_wp2
    go_loop [9] (AllIn n xs) (fun i => n - (intOf i).toNat)
    case atStart => exact ⟨0, Nat.zero_le _, rfl, fun j hj => by omega⟩
    case round =>
      obtain ⟨k, hk, rfl, hall⟩ := hrel
      have HA := Lib.hid hall
      clear hall
      by_cases hlt : k < n
      · by_cases hm : (k : Int) ∈ xs
        · have hd := HC.out (k : Int) w rfl
          rw [decide_eq_true hm] at hd
          have HD := Lib.hid hd
          have HM := Lib.hid hm
          clear hd hm
          go_wp2_with fail
          refine HD.out.mono ?_
          rintro e w1 ⟨rfl, rfl⟩
          go_wp2
          go_round
          case rel =>
            refine ⟨k + 1, by omega, by go_num, fun j hj => ?_⟩
            rcases Nat.lt_or_ge j k with h | h
            · exact HA.out j h
            · obtain rfl : j = k := by omega
              exact HM.out
          case measure => simp [intOf]; omega
        · have hd := HC.out (k : Int) w rfl
          rw [decide_eq_false hm] at hd
          have HD := Lib.hid hd
          have hf : rightB xs = false := rightB_no.2 (fun hr => hm (hr.mem.2 ⟨by omega, by have := HN.out; omega⟩))
          have HF := Lib.hid hf
          clear hd hm hf
          go_wp2_with fail
          refine HD.out.mono ?_
          rintro e w1 ⟨rfl, rfl⟩
          go_wp2
          go_ret
          exact ⟨ret_bool HF.out.symm, rfl⟩
      · have ht : rightB xs = true := rightB_iff.2 (rt_of_mem (by have := HN.out; omega) (fun j hj => HA.out j (by have := HN.out; omega)))
        have HT := Lib.hid ht
        clear ht
        go_wp2
        go_ret
        exact ⟨ret_bool HT.out.symm, rfl⟩

def CountTo (n : Nat) (xs : List Int) (z : Int) (c i : Value) : Prop := ∃ (k : Nat) (q : Nat), k ≤ n ∧ q ≤ k ∧ i = .int .i64 (k : Int) ∧ c = .int .i64 (q : Int) ∧ (xs.take k).count z = q
def AllOne (n : Nat) (xs : List Int) (i : Value) : Prop := ∃ k : Nat, k ≤ n ∧ i = .int .i64 (k : Int) ∧ ∀ j : Nat, j < k → xs.count (j : Int) = 1

set_option maxRecDepth 100000 in
set_option maxHeartbeats 400000 in
/-- The document's answer: which lists are permutations. -/
theorem refRight_any (v : Value) (xs : List Int) (w : World) (h : SI w v xs) (hn : xs.length ≤ 9223372036854775807) :
    Calls Try.prog 13 #[v] w (fun e w' => e = .returned (.bool (rightB xs)) ∧ w = w') := by
  obtain ⟨A, cap, rfl, hcap, hs⟩ := h
  have HS := Lib.hid hs
  clear hs
  obtain ⟨n, hnx⟩ : ∃ n, n = xs.length := ⟨_, rfl⟩
  rw [← hnx] at hcap hn ⊢
  have HN := Lib.hid hnx
  clear hnx
  go_enter Try.func13, Try.ntmps13
  go_wp2
  go_loop [3] (AllOne n xs) (fun i => n - (intOf i).toNat)
  case atStart => exact ⟨0, Nat.zero_le _, rfl, fun j hj => by omega⟩
  case round =>
    obtain ⟨k, hk, rfl, hall⟩ := hrel
    have HA := Lib.hid hall
    clear hall
    by_cases hlt : k < n
    · go_wp2
      go_loop [4, 5] (CountTo n xs (k : Int)) (fun _ i => n - (intOf i).toNat)
      case atStart => exact ⟨0, 0, Nat.zero_le _, Nat.le_refl _, rfl, rfl, rfl⟩
      case round =>
        obtain ⟨j, q, hj, hq, rfl, rfl, hc⟩ := hrel
        have HC := Lib.hid hc
        clear hc
        by_cases hjn : j < n
        · obtain ⟨x, hxk⟩ : ∃ x, xs[j]? = some x := ⟨xs[j]'(by have := HN.out; omega), List.getElem?_eq_getElem _⟩
          obtain ⟨ad, rfl, hbl, hcell⟩ := HS.out j (.int .i64 x) (is_at hxk)
          have HT := Lib.hid (take_snoc hxk)
          clear hxk
          by_cases hx : x = (k : Int)
          · subst hx
            go_wp2
            go_round
            case rel => exact ⟨j + 1, q + 1, by omega, by omega, by go_num, by go_num, by rw [HT.out, List.count_append, HC.out]; simp⟩
            case measure => simp [intOf]; omega
          · have hxz : (x == (k : Int)) = false := by rw [beq_eq_false_iff_ne]; exact hx
            have HX := Lib.hid hx
            clear hx
            go_wp2
            go_round
            case rel => exact ⟨j + 1, q, by omega, by omega, by go_num, rfl, by rw [HT.out, List.count_append, HC.out, List.count_singleton]; simp [hxz]⟩
            case measure => simp [intOf]; omega
        · have HQ : Hid (xs.count (k : Int) = q) := by
            have := HC.out
            rwa [List.take_of_length_le (by have := HN.out; omega)] at this
          by_cases hq1 : q = 1
          · subst hq1
            go_wp2
            go_round
            case rel =>
              refine ⟨k + 1, by omega, by go_num, fun i hi => ?_⟩
              rcases Nat.lt_or_ge i k with h | h
              · exact HA.out i h
              · obtain rfl : i = k := by omega
                exact HQ.out
            case measure => simp [intOf]; omega
          · have hf : rightB xs = false := rightB_no.2 (fun hr => by
              have := rt_count hr (k := k) (by have := HN.out; omega)
              have := HQ.out
              omega)
            have HF := Lib.hid hf
            have hne : ((q : Int) != 1) = true := by rw [bne_iff_ne]; omega
            clear hf hq1
            go_wp2
            go_ret
            exact ⟨ret_bool HF.out.symm, rfl⟩
    · have hr : rightB xs = decide (n ≤ 16) := by
        by_cases h16 : n ≤ 16
        · rw [decide_eq_true h16]
          refine rightB_iff.2 (rt_of_mem (by have := HN.out; omega) (fun j hj => ?_))
          have := HA.out j (by have := HN.out; omega)
          exact List.count_pos_iff.1 (by omega)
        · rw [decide_eq_false h16]
          exact rightB_no.2 (fun hr => by have := hr.1; have := HN.out; omega)
      have HR := Lib.hid hr
      clear hr
      go_wp2
      go_ret
      exact ⟨ret_bool (by rw [HR.out]; first | rfl | (simp; done) | (simp; omega)), rfl⟩

end Go.Proofs.Ytldpmbifngeopaa
