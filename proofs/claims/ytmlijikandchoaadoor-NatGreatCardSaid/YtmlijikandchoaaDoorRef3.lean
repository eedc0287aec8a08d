/- Noughts cut off the end: trim, Words, counting. -/
import Derived.Test.YtmlijikandchoaaDoorRef1
namespace Go.Proofs.YtmlijikandchoaaDoor
open Go.RowKit NatMath

def TrimRel (n : Nat) (xs : List Nat) (i : Value) : Prop := ∃ k : Nat, k ≤ n ∧ cnt xs ≤ k ∧ i = .int .i64 (k : Int)

set_option maxRecDepth 100000 in
set_option maxHeartbeats 400000 in
theorem trim_any (A : Option Addr) (cap : Nat) (xs : List Nat) (w : World) (hs : Sees w A (is xs)) (hcap : xs.length ≤ cap) (hn : xs.length ≤ 4000000) :
    Calls Tryd.prog 43 #[.slice A xs.length cap] w (fun e w' => e = .returned (.slice A (cnt xs) cap) ∧ w = w') := by
  have HS := Lib.hid hs
  clear hs
  obtain ⟨n, hnx⟩ : ∃ n, n = xs.length := ⟨_, rfl⟩
  rw [← hnx] at hcap hn ⊢
  have HN := Lib.hid hnx
  clear hnx
  obtain ⟨c, hc⟩ : ∃ c, c = cnt xs := ⟨_, rfl⟩
  rw [← hc]
  have HC := Lib.hid hc
  clear hc
  go_enter Tryd.func43, Tryd.ntmps43
  go_wp2
  go_loop [3] (TrimRel n xs) (fun i => (intOf i).toNat)
  case atStart => exact ⟨n, Nat.le_refl _, by have := HN.out; have := cnt_le xs; omega, rfl⟩
  case round =>
    obtain ⟨k, hk, hck, rfl⟩ := hrel
    have HCK := Lib.hid hck
    clear hck
    rcases Nat.eq_zero_or_pos k with rfl | hk0
    · have e0 : c = 0 := by have := HC.out; have := HCK.out; omega
      subst e0
      go_wp2
      go_ret
      exact ⟨rfl, rfl⟩
    · obtain ⟨m, rfl⟩ : ∃ m, k = m + 1 := ⟨k - 1, by omega⟩
      obtain ⟨x, hxk⟩ : ∃ x, xs[m]? = some x := ⟨xs[m]'(by have := HN.out; omega), List.getElem?_eq_getElem _⟩
      obtain ⟨ad, rfl, hbl, hcell⟩ := HS.out m (.int .i64 (x : Int)) (by simp [is, hxk])
      have HXK := Lib.hid hxk
      clear hxk
      by_cases hx0 : x = 0
      · subst hx0
        go_wp2
        go_round
        case rel => exact ⟨m, by omega, cnt_down HCK.out HXK.out, rfl⟩
        case measure => simp [intOf]
      · have hxb : ((x : Int) == 0) = false := by rw [beq_eq_false_iff_ne]; omega
        have e0 : c = m + 1 := by rw [HC.out]; exact cnt_stop HCK.out HXK.out hx0
        subst e0
        go_wp2
        go_ret
        exact ⟨rfl, rfl⟩

set_option maxRecDepth 100000 in
set_option maxHeartbeats 400000 in
theorem words_any (A : Option Addr) (cap : Nat) (xs : List Nat) (w : World) (hs : Sees w A (us xs)) (hn : xs.length ≤ 4000000) :
    Calls Tryd.prog 24 #[.slice A xs.length cap] w (fun e w' => e = .returned (.int .i64 (((cnt xs) : Nat) : Int)) ∧ w = w') := by
  have HS := Lib.hid hs
  clear hs
  obtain ⟨n, hnx⟩ : ∃ n, n = xs.length := ⟨_, rfl⟩
  rw [← hnx] at hn ⊢
  have HN := Lib.hid hnx
  clear hnx
  obtain ⟨c, hc⟩ : ∃ c, c = cnt xs := ⟨_, rfl⟩
  rw [← hc]
  have HC := Lib.hid hc
  clear hc
  go_enter Tryd.func24, Tryd.ntmps24
  go_wp2
  go_loop [3] (TrimRel n xs) (fun i => (intOf i).toNat)
  case atStart => exact ⟨n, Nat.le_refl _, by have := HN.out; have := cnt_le xs; omega, rfl⟩
  case round =>
    obtain ⟨k, hk, hck, rfl⟩ := hrel
    have HCK := Lib.hid hck
    clear hck
    rcases Nat.eq_zero_or_pos k with rfl | hk0
    · have e0 : c = 0 := by have := HC.out; have := HCK.out; omega
      subst e0
      go_wp2
      go_ret
      exact ⟨rfl, rfl⟩
    · obtain ⟨m, rfl⟩ : ∃ m, k = m + 1 := ⟨k - 1, by omega⟩
      obtain ⟨x, hxk⟩ : ∃ x, xs[m]? = some x := ⟨xs[m]'(by have := HN.out; omega), List.getElem?_eq_getElem _⟩
      obtain ⟨ad, rfl, hbl, hcell⟩ := HS.out m (.int .u64 (x : Int)) (by simp [us, hxk])
      have HXK := Lib.hid hxk
      clear hxk
      by_cases hx0 : x = 0
      · subst hx0
        go_wp2
        go_round
        case rel => exact ⟨m, by omega, cnt_down HCK.out HXK.out, rfl⟩
        case measure => simp [intOf]
      · have hxb : ((x : Int) == 0) = false := by rw [beq_eq_false_iff_ne]; omega
        have e0 : c = m + 1 := by rw [HC.out]; exact cnt_stop HCK.out HXK.out hx0
        subst e0
        go_wp2
        go_ret
        exact ⟨rfl, rfl⟩

set_option maxRecDepth 100000 in
set_option maxHeartbeats 400000 in
theorem counting_any (A : Option Addr) (cap : Nat) (xs : List Nat) (w : World) (hs : Sees w A (us xs)) (hcap : xs.length ≤ cap) (hn : xs.length ≤ 4000000) :
    Calls Tryd.prog 47 #[.slice A xs.length cap] w (fun e w' => e = .returned (.slice A (cnt xs) cap) ∧ w = w') := by
  have HS := Lib.hid hs
  clear hs
  obtain ⟨n, hnx⟩ : ∃ n, n = xs.length := ⟨_, rfl⟩
  rw [← hnx] at hcap hn ⊢
  have HN := Lib.hid hnx
  clear hnx
  obtain ⟨c, hc⟩ : ∃ c, c = cnt xs := ⟨_, rfl⟩
  rw [← hc]
  have HC := Lib.hid hc
  clear hc
  go_enter Tryd.func47, Tryd.ntmps47
  go_wp2
  go_loop [3] (TrimRel n xs) (fun i => (intOf i).toNat)
  case atStart => exact ⟨n, Nat.le_refl _, by have := HN.out; have := cnt_le xs; omega, rfl⟩
  case round =>
    obtain ⟨k, hk, hck, rfl⟩ := hrel
    have HCK := Lib.hid hck
    clear hck
    rcases Nat.eq_zero_or_pos k with rfl | hk0
    · have e0 : c = 0 := by have := HC.out; have := HCK.out; omega
      subst e0
      go_wp2
      go_ret
      exact ⟨rfl, rfl⟩
    · obtain ⟨m, rfl⟩ : ∃ m, k = m + 1 := ⟨k - 1, by omega⟩
      obtain ⟨x, hxk⟩ : ∃ x, xs[m]? = some x := ⟨xs[m]'(by have := HN.out; omega), List.getElem?_eq_getElem _⟩
      obtain ⟨ad, rfl, hbl, hcell⟩ := HS.out m (.int .u64 (x : Int)) (by simp [us, hxk])
      have HXK := Lib.hid hxk
      clear hxk
      by_cases hx0 : x = 0
      · subst hx0
        go_wp2
        go_round
        case rel => exact ⟨m, by omega, cnt_down HCK.out HXK.out, rfl⟩
        case measure => simp [intOf]
      · have hxb : ((x : Int) == 0) = false := by rw [beq_eq_false_iff_ne]; omega
        have e0 : c = m + 1 := by rw [HC.out]; exact cnt_stop HCK.out HXK.out hx0
        subst e0
        go_wp2
        go_ret
        exact ⟨rfl, rfl⟩

theorem SI.cut {w : World} {A : Option Addr} {cap : Nat} {xs : List Nat} (hs : Sees w A (is xs)) (hcap : xs.length ≤ cap) {k : Nat} (hk : k ≤ xs.length) : SI w (.slice A k cap) (xs.take k) := by
  have hl : (xs.take k).length = k := by rw [List.length_take]; omega
  exact ⟨A, cap, by rw [hl], by omega, by rw [is_take]; exact hs.take k⟩
theorem SU.cut {w : World} {A : Option Addr} {cap : Nat} {xs : List Nat} (hs : Sees w A (us xs)) (hcap : xs.length ≤ cap) {k : Nat} (hk : k ≤ xs.length) : SU w (.slice A k cap) (xs.take k) := by
  have hl : (xs.take k).length = k := by rw [List.length_take]; omega
  exact ⟨A, cap, by rw [hl], by omega, by rw [us_take]; exact hs.take k⟩

end Go.Proofs.YtmlijikandchoaaDoor
