/- The document's answer: pairs that stand otherwise, and whether two lists are the same. -/
import Derived.Test.YtlmpiadmgjfaiaaRead1
namespace Go.Proofs.Ytlmpiadmgjfaiaa
open Go.RowKit PermMath

def SameTo (w : World) (n : Nat) (xs ys : List Int) (i : Value) (wr : World) : Prop := ∃ k : Nat, k ≤ n ∧ i = .int .i64 (k : Int) ∧ xs.take k = ys.take k ∧ Below w.heap.size w wr

set_option maxRecDepth 100000 in
set_option maxHeartbeats 400000 in
theorem refSame_any (v u : Value) (xs ys : List Int) (w : World) (h : SI w v xs) (h' : SI w u ys) (_hn : xs.length ≤ 9223372036854775807) (hn' : ys.length ≤ 9223372036854775807) :
    Calls Try.prog 13 #[v, u] w (RetV w (.bool (decide (xs = ys)))) := by
  obtain ⟨A, cap, rfl, hcap, hs⟩ := h
  obtain ⟨A', cap', rfl, hcap', hs'⟩ := h'
  by_cases hl : xs.length = ys.length
  · rw [← hl] at hcap' hn' ⊢
    have HS := Lib.hid hs
    have HS' := Lib.hid hs'
    clear hs hs'
    obtain ⟨n, hnx⟩ : ∃ n, n = xs.length := ⟨_, rfl⟩
    rw [← hnx] at hcap hcap' hn' hl ⊢
    have HN := Lib.hid hnx
    have HN' := Lib.hid hl
    clear hnx hl
    go_enter Try.func13, Try.ntmps13
    go_wp2
    go_loopw [5] (SameTo w n xs ys) (fun i _ => n - (intOf i).toNat)
    case atStart => exact ⟨0, Nat.zero_le _, rfl, rfl, Below.refl _ _⟩
    case round =>
      obtain ⟨k, hk, rfl, ht, hb⟩ := hrel
      have HT := Lib.hid ht
      clear ht
      by_cases hlt : k < n
      · obtain ⟨x, hxk⟩ : ∃ x, xs[k]? = some x := ⟨xs[k]'(by have := HN.out; omega), List.getElem?_eq_getElem _⟩
        obtain ⟨y, hyk⟩ : ∃ y, ys[k]? = some y := ⟨ys[k]'(by have := HN'.out; omega), List.getElem?_eq_getElem _⟩
        obtain ⟨ad, rfl, hbl, hcell⟩ := (HS.out.below hb) k (.int .i64 x) (is_at hxk)
        obtain ⟨ad', rfl, hbl', hcell'⟩ := (HS'.out.below hb) k (.int .i64 y) (is_at hyk)
        have HXK := Lib.hid hxk
        have HYK := Lib.hid hyk
        clear hxk hyk
        by_cases hxy : x = y
        · subst hxy
          go_wp2
          go_quiet (fail)
          go_wp2
          go_roundw
          case rel => exact ⟨k + 1, by omega, by go_num, by rw [take_snoc HXK.out, take_snoc HYK.out, HT.out], below_drewN hb _⟩
          case measure => simp [intOf]; omega
        · have hne : (x != y) = true := by rw [bne_iff_ne]; exact hxy
          have hd : decide (xs = ys) = false := decide_eq_false (fun e => hxy (by
            have := HXK.out
            rw [e, HYK.out] at this
            injection this with this
            exact this.symm))
          have HD := Lib.hid hd
          clear hxy hd
          go_wp2
          go_quiet (fail)
          go_wp2
          go_ret
          exact ⟨ret_bool HD.out.symm, below_drewN hb _⟩
      · have hd : decide (xs = ys) = true := decide_eq_true (by
          have := HT.out
          rwa [List.take_of_length_le (by have := HN.out; omega), List.take_of_length_le (by have := HN'.out; omega)] at this)
        have HD := Lib.hid hd
        clear hd
        go_wp2
        go_ret
        exact ⟨ret_bool HD.out.symm, hb⟩
  · have hd : decide (xs = ys) = false := decide_eq_false (fun e => hl (by rw [e]))
    rw [hd]
    clear hd hs hs'
    generalize xs.length = n at *
    generalize ys.length = n' at *
    have hne : ((n : Int) != (n' : Int)) = true := by rw [bne_iff_ne]; omega
    have hne2 : (n != n') = true := by rw [bne_iff_ne]; omega
    clear hl
    go_enter Try.func13, Try.ntmps13
    go_wp2
    go_ret
    exact ⟨rfl, Below.refl _ _⟩

def PairsOut (w : World) (n : Nat) (xs : List Int) (c i : Value) (wr : World) : Prop := ∃ (k q : Nat), k ≤ n ∧ i = .int .i64 (k : Int) ∧ c = .int .i64 (q : Int) ∧ q = inv (xs.take k) ∧ Below w.heap.size w wr
def PairsIn (w : World) (k : Nat) (xs : List Int) (x : Int) (c i : Value) (wr : World) : Prop := ∃ (j q : Nat), j ≤ k ∧ i = .int .i64 (j : Int) ∧ c = .int .i64 (q : Int) ∧ q = inv (xs.take k) + (xs.take j).countP (x < ·) ∧ Below w.heap.size w wr

set_option maxRecDepth 100000 in
set_option maxHeartbeats 400000 in
theorem refPairs_any (v : Value) (xs : List Int) (w : World) (h : SI w v xs) (hn : xs.length ≤ 40) :
    Calls Try.prog 17 #[v] w (RetV w (.int .i64 ((inv xs : Nat) : Int))) := by
  obtain ⟨A, cap, rfl, hcap, hs⟩ := h
  have HS := Lib.hid hs
  clear hs
  obtain ⟨n, hnx⟩ : ∃ n, n = xs.length := ⟨_, rfl⟩
  rw [← hnx] at hcap hn ⊢
  have HN := Lib.hid hnx
  clear hnx
  go_enter Try.func17, Try.ntmps17
  go_wp2
  go_loopw [3, 4] (PairsOut w n xs) (fun _ i _ => n - (intOf i).toNat)
  case atStart => exact ⟨0, 0, Nat.zero_le _, rfl, rfl, rfl, Below.refl _ _⟩
  case round =>
    obtain ⟨k, q, hk, rfl, rfl, hq, hb⟩ := hrel
    have hq2 : q ≤ 1600 := by
      rw [hq]
      refine Nat.le_trans (inv_le _) ?_
      have : (xs.take k).length ≤ 40 := by rw [List.length_take]; omega
      exact Nat.mul_le_mul this this
    have HQ := Lib.hid hq
    clear hq
    by_cases hlt : k < n
    · obtain ⟨x, hxk⟩ : ∃ x, xs[k]? = some x := ⟨xs[k]'(by have := HN.out; omega), List.getElem?_eq_getElem _⟩
      have HXK := Lib.hid hxk
      clear hxk
      go_wp2
      go_loopw [3, 5] (PairsIn w k xs x) (fun _ i _ => k - (intOf i).toNat)
      case atStart => exact ⟨0, q, Nat.zero_le _, rfl, rfl, by rw [HQ.out]; simp, hb⟩
      case round =>
        obtain ⟨j, p, hj, rfl, rfl, hp, hb2⟩ := hrel
        have hp2 : p ≤ 1640 := by
          rw [hp, ← HQ.out]
          have := List.countP_le_length (p := (x < ·)) (l := xs.take j)
          rw [List.length_take] at this
          omega
        have HP := Lib.hid hp
        clear hp
        by_cases hjk : j < k
        · obtain ⟨y, hyj⟩ : ∃ y, xs[j]? = some y := ⟨xs[j]'(by have := HN.out; omega), List.getElem?_eq_getElem _⟩
          obtain ⟨ad, rfl, hbl, hcell⟩ := (HS.out.below hb2) k (.int .i64 x) (is_at HXK.out)
          obtain ⟨ad', had, _, hcell'⟩ := (HS.out.below hb2) j (.int .i64 y) (is_at hyj)
          injection had with had
          subst had
          have HT := Lib.hid (take_snoc hyj)
          clear hyj
          by_cases hyx : x < y
          · go_wp2
            go_quiet (fail)
            go_wp2
            go_roundw
            case rel => exact ⟨j + 1, p + 1, by omega, by go_num, by go_num, by rw [HT.out, List.countP_append, HP.out]; simp [hyx]; omega, below_drewN hb2 _⟩
            case measure => simp [intOf]; omega
          · have hd : decide (x < y) = false := decide_eq_false hyx
            have HYX := Lib.hid hyx
            clear hyx
            go_wp2
            go_quiet (fail)
            go_wp2
            go_roundw
            case rel => exact ⟨j + 1, p, by omega, by go_num, rfl, by rw [HT.out, List.countP_append, HP.out]; simp [HYX.out], below_drewN hb2 _⟩
            case measure => simp [intOf]; omega
        · obtain rfl : j = k := by omega
          go_wp2
          go_roundw
          case rel => exact ⟨j + 1, p, by omega, by go_num, rfl, by rw [HP.out, take_snoc HXK.out, inv_snoc], hb2⟩
          case measure => simp [intOf]; omega
    · have HE : Hid (inv xs = q) := by
        have := HQ.out
        rw [List.take_of_length_le (by have := HN.out; omega)] at this
        exact this.symm
      go_wp2
      go_ret
      exact ⟨ret_int (by rw [HE.out]), hb⟩

end Go.Proofs.Ytlmpiadmgjfaiaa
