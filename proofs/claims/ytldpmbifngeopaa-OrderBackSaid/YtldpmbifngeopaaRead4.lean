/- The document's answer: pairs that stand otherwise, and whether two lists are the same. -/
import Derived.Test.YtldpmbifngeopaaRead1
namespace Go.Proofs.Ytldpmbifngeopaa
open Go.RowKit PermMath

def SameTo (w : World) (n : Nat) (xs ys : List Int) (i : Value) (wr : World) : Prop := ∃ k : Nat, k ≤ n ∧ i = .int .i64 (k : Int) ∧ xs.take k = ys.take k ∧ Below w.heap.size w wr

set_option maxRecDepth 100000 in
set_option maxHeartbeats 400000 in
theorem refSame_any (v u : Value) (xs ys : List Int) (w : World) (h : SI w v xs) (h' : SI w u ys) (_hn : xs.length ≤ 9223372036854775807) (hn' : ys.length ≤ 9223372036854775807) :
    Calls Try.prog 9 #[v, u] w (RetV w (.bool (decide (xs = ys)))) := by
  obtain ⟨A, cap, rfl, hcap, hs⟩ := h
  obtain ⟨A', cap', rfl, hcap', hs'⟩ := h'
  by_cases hl : xs.length = ys.length
  · rw [← hl] at hcap' hn' ⊢
    have HS := Lib.hid hs
    have HS' := Lib.hid hs'
    clear hs hs'
    obtain ⟨n, hnx⟩ : ∃ n, n = xs.length := ⟨_, rfl⟩
    rw [← hnx] at hcap hcap' hn' hl ⊢
    have HN := Lib.hid hnx
    have HN' := Lib.hid hl
    clear hnx hl
    go_enter Try.func9, Try.ntmps9
    go_wp2
    go_loopw [5] (SameTo w n xs ys) (fun i _ => n - (intOf i).toNat)
    case atStart => exact ⟨0, Nat.zero_le _, rfl, rfl, Below.refl _ _⟩
    case round =>
      obtain ⟨k, hk, rfl, ht, hb⟩ := hrel
      have HT := Lib.hid ht
      clear ht
      by_cases hlt : k < n
      · obtain ⟨x, hxk⟩ : ∃ x, xs[k]? = some x := ⟨xs[k]'(by have := HN.out; omega), List.getElem?_eq_getElem _⟩
        obtain ⟨y, hyk⟩ : ∃ y, ys[k]? = some y := ⟨ys[k]'(by have := HN'.out; omega), List.getElem?_eq_getElem _⟩
        obtain ⟨ad, rfl, hbl, hcell⟩ := (HS.out.below hb) k (.int .i64 x) (is_at hxk)
        obtain ⟨ad', rfl, hbl', hcell'⟩ := (HS'.out.below hb) k (.int .i64 y) (is_at hyk)
        have HXK := Lib.hid hxk
        have HYK := Lib.hid hyk
        clear hxk hyk
        by_cases hxy : x = y
        · subst hxy
          go_wp2
          go_quiet (fail)
          go_wp2
          go_roundw
          case rel => exact ⟨k + 1, by omega, by go_num, by rw [take_snoc HXK.out, take_snoc HYK.out, HT.out], below_drewN hb _⟩
          case measure => simp [intOf]; omega
        · have hne : (x != y) = true := by rw [bne_iff_ne]; exact hxy
          have hd : decide (xs = ys) = false := decide_eq_false (fun e => hxy (by
            have := HXK.out
            rw [e, HYK.out] at this
            injection this with this
            exact this.symm))
          have HD := Lib.hid hd
          clear hxy hd
          go_wp2
          go_quiet (fail)
          go_wp2
          go_ret
          exact ⟨ret_bool HD.out.symm, below_drewN hb _⟩
      · have hd : decide (xs = ys) = true := decide_eq_true (by
          have := HT.out
          rwa [List.take_of_length_le (by have := HN.out; omega), List.take_of_length_le (by have := HN'.out; omega)] at this)
        have HD := Lib.hid hd
        clear hd
        go_wp2
        go_ret
        exact ⟨ret_bool HD.out.symm, hb⟩
  · have hd : decide (xs = ys) = false := decide_eq_false (fun e => hl (by rw [e]))
    rw [hd]
    clear hd hs hs'
    generalize xs.length = n at *
    generalize ys.length = n' at *
    have hne : ((n : Int) != (n' : Int)) = true := by rw [bne_iff_ne]; omega
    have hne2 : (n != n') = true := by rw [bne_iff_ne]; omega
    clear hl
    go_enter Try.func9, Try.ntmps9
    go_wp2
    go_ret
    exact ⟨rfl, Below.refl _ _⟩

end Go.Proofs.Ytldpmbifngeopaa
