/- The document's own Same, Take, Skip, Every and Range; no statement of the seat. -/
import Derived.Test.YtndocahooajfgaaColl
namespace Go.Proofs.Ytndocahooajfgaa
open Go.RowKit SeqMath

def SameTo (w : World) (n : Nat) (xs ys : List Int) (i : Value) (wr : World) : Prop := ∃ k : Nat, k ≤ n ∧ i = .int .i64 (k : Int) ∧ xs.take k = ys.take k ∧ Below w.heap.size w wr

set_option maxRecDepth 100000 in
set_option maxHeartbeats 400000 in
theorem refSame_any (v u : Value) (xs ys : List Int) (w : World) (h : SI w v xs) (h' : SI w u ys) (_hn : xs.length ≤ 9223372036854775807) (hn' : ys.length ≤ 9223372036854775807) :
    Calls Try.prog 12 #[v, u] w (RetV w (.bool (decide (xs = ys)))) := by
  obtain ⟨A, cap, rfl, hcap, hs⟩ := h
  obtain ⟨A', cap', rfl, hcap', hs'⟩ := h'
  by_cases hl : xs.length = ys.length
  · rw [← hl] at hcap' hn' ⊢
    have HS := Lib.hid hs
    have HS' := Lib.hid hs'
    clear hs hs'
    obtain ⟨n, hnx⟩ : ∃ n, n = xs.length := ⟨_, rfl⟩
    rw [← hnx] at hcap hcap' hn' hl ⊢
    have HN := Lib.hid hnx
    have HN' := Lib.hid hl
    clear hnx hl
    go_enter Try.func12, Try.ntmps12
    go_wp2
    go_loopw [5] (SameTo w n xs ys) (fun i _ => n - (intOf i).toNat)
    case atStart => exact ⟨0, Nat.zero_le _, rfl, rfl, Below.refl _ _⟩
    case round =>
      obtain ⟨k, hk, rfl, ht, hb⟩ := hrel
      have HT := Lib.hid ht
      clear ht
      by_cases hlt : k < n
      · obtain ⟨x, hxk⟩ : ∃ x, xs[k]? = some x := ⟨xs[k]'(by have := HN.out; omega), List.getElem?_eq_getElem _⟩
        obtain ⟨y, hyk⟩ : ∃ y, ys[k]? = some y := ⟨ys[k]'(by have := HN'.out; omega), List.getElem?_eq_getElem _⟩
        obtain ⟨ad, rfl, hbl, hcell⟩ := (HS.out.below hb) k (.int .i64 x) (is_at hxk)
        obtain ⟨ad', rfl, hbl', hcell'⟩ := (HS'.out.below hb) k (.int .i64 y) (is_at hyk)
        have HXK := Lib.hid hxk
        have HYK := Lib.hid hyk
        clear hxk hyk
        by_cases hxy : x = y
        · subst hxy
          go_wp2
          go_quiet (fail)
          go_wp2
          go_roundw
          case rel => exact ⟨k + 1, by omega, by go_num, by rw [take_snoc HXK.out, take_snoc HYK.out, HT.out], below_drewN hb _⟩
          case measure => simp [intOf]; omega
        · have hne : (x != y) = true := by rw [bne_iff_ne]; exact hxy
          have hd : decide (xs = ys) = false := decide_eq_false (fun e => hxy (by
            have := HXK.out
            rw [e, HYK.out] at this
            injection this with this
            exact this.symm))
          have HD := Lib.hid hd
          clear hxy hd
          go_wp2
          go_quiet (fail)
          go_wp2
          go_ret
          exact ⟨ret_bool HD.out.symm, below_drewN hb _⟩
      · have hd : decide (xs = ys) = true := decide_eq_true (by
          have := HT.out
          rwa [List.take_of_length_le (by have := HN.out; omega), List.take_of_length_le (by have := HN'.out; omega)] at this)
        have HD := Lib.hid hd
        clear hd
        go_wp2
        go_ret
        exact ⟨ret_bool HD.out.symm, hb⟩
  · have hd : decide (xs = ys) = false := decide_eq_false (fun e => hl (by rw [e]))
    rw [hd]
    clear hd hs hs'
    generalize xs.length = n at *
    generalize ys.length = n' at *
    have hne : ((n : Int) != (n' : Int)) = true := by rw [bne_iff_ne]; omega
    have hne2 : (n != n') = true := by rw [bne_iff_ne]; omega
    clear hl
    go_enter Try.func12, Try.ntmps12
    go_wp2
    go_ret
    exact ⟨rfl, Below.refl _ _⟩


set_option maxHeartbeats 1000000
set_option maxRecDepth 100000

def outRel (w : World) (n : Nat) (f : Nat → List Int) (o i : Value) (wr : World) : Prop := ∃ k : Nat, k ≤ n ∧ i = .int .i64 (k : Int) ∧ Own wr w.heap.size o (f k) ∧ Below w.heap.size w wr

theorem refTake_any (v : Value) (xs : List Int) (m : Int) (w : World) (h : SI w v xs) (hn : xs.length ≤ 4000000) : Calls Try.prog 19 #[v, .int .i64 m] w (RetI w (xs.take m.toNat)) := by
  obtain ⟨A, cap, rfl, hcap, hs⟩ := h
  have HS := Lib.hid hs
  clear hs
  obtain ⟨n, hnx⟩ : ∃ n, n = xs.length := ⟨_, rfl⟩
  rw [← hnx] at hcap hn ⊢
  have HN := Lib.hid hnx
  clear hnx
  go_enter Try.func19, Try.ntmps19
  go_wp2
  go_loopw [5, 6] (outRel w n (fun k => (xs.take m.toNat).take k)) (fun _ i _ => n - (intOf i).toNat)
  case atStart => exact ⟨0, Nat.zero_le _, rfl, by simpa using Own.nil _ _, Below.refl _ _⟩
  case round =>
    obtain ⟨k, hk, rfl, hown, hb⟩ := hrel
    by_cases hlt : k < n
    · by_cases hm : (k : Int) < m
      · obtain ⟨x, hxk⟩ : ∃ x, xs[k]? = some x := ⟨xs[k]'(by have := HN.out; omega), List.getElem?_eq_getElem _⟩
        obtain ⟨ad, rfl, hbl, hcell⟩ := (HS.out.below hb) k (.int .i64 x) (is_at hxk)
        have htk : (xs.take m.toNat).take (k + 1) = (xs.take m.toNat).take k ++ [x] := take_snoc (by rw [List.getElem?_take, if_pos (by omega)]; exact hxk)
        have HT := Lib.hid htk
        have HO := Lib.hid hown
        have HL := Lib.hid (show ((xs.take m.toNat).take k).length ≤ 4000000 by simp; have := HN.out; omega)
        clear htk hxk hown
        go_wp2_with (at_builtin; refine wpList_app w.heap.size wr rfl (.tmp 18) (.tmp 23) rfl _ _ x rfl rfl HO.out HL.out hb.size ?_; intro v4 w4 hown4 hb4 hg4)
        have hb5 : Below w.heap.size w w4 := hb.trans hb4
        go_roundw
        case rel => exact ⟨k + 1, by omega, by go_num, by show Own _ _ _ ((xs.take m.toNat).take (k + 1)); rw [HT.out]; exact hown4, hb5⟩
        case measure => simp [intOf]; omega
      · have hz : (xs.take m.toNat).take k = xs.take m.toNat := List.take_of_length_le (by simp; omega)
        have HR : Hid (Own wr w.heap.size u5 (xs.take m.toNat)) := Lib.hid (hz ▸ hown)
        clear hz hown
        go_wp2
        go_ret
        exact ⟨_, rfl, HR.out, hb⟩
    · have hz : (xs.take m.toNat).take k = xs.take m.toNat := List.take_of_length_le (by simp; have := HN.out; omega)
      have HR : Hid (Own wr w.heap.size u5 (xs.take m.toNat)) := Lib.hid (hz ▸ hown)
      clear hz hown
      go_wp2
      go_ret
      exact ⟨_, rfl, HR.out, hb⟩

theorem refSkip_any (v : Value) (xs : List Int) (m : Int) (w : World) (h : SI w v xs) (hn : xs.length ≤ 4000000) : Calls Try.prog 20 #[v, .int .i64 m] w (RetI w (xs.drop m.toNat)) := by
  obtain ⟨A, cap, rfl, hcap, hs⟩ := h
  have HS := Lib.hid hs
  clear hs
  obtain ⟨n, hnx⟩ : ∃ n, n = xs.length := ⟨_, rfl⟩
  rw [← hnx] at hcap hn ⊢
  have HN := Lib.hid hnx
  clear hnx
  go_enter Try.func20, Try.ntmps20
  go_wp2
  go_loopw [5, 6] (outRel w n (fun k => (xs.take k).drop m.toNat)) (fun _ i _ => n - (intOf i).toNat)
  case atStart => exact ⟨0, Nat.zero_le _, rfl, by simpa using Own.nil _ _, Below.refl _ _⟩
  case round =>
    obtain ⟨k, hk, rfl, hown, hb⟩ := hrel
    by_cases hlt : k < n
    · obtain ⟨x, hxk⟩ : ∃ x, xs[k]? = some x := ⟨xs[k]'(by have := HN.out; omega), List.getElem?_eq_getElem _⟩
      have hlk : (xs.take k).length = k := by simp; have := HN.out; omega
      by_cases hm : m ≤ (k : Int)
      · obtain ⟨ad, rfl, hbl, hcell⟩ := (HS.out.below hb) k (.int .i64 x) (is_at hxk)
        have htk : (xs.take (k + 1)).drop m.toNat = (xs.take k).drop m.toNat ++ [x] := by rw [take_snoc hxk, List.drop_append, hlk, show m.toNat - k = 0 by omega]; rfl
        have HT := Lib.hid htk
        have HO := Lib.hid hown
        have HL := Lib.hid (show ((xs.take k).drop m.toNat).length ≤ 4000000 by simp; have := HN.out; omega)
        clear htk hxk hown hlk
        go_wp2_with (at_builtin; refine wpList_app w.heap.size wr rfl (.tmp 16) (.tmp 21) rfl _ _ x rfl rfl HO.out HL.out hb.size ?_; intro v4 w4 hown4 hb4 hg4)
        have hb5 : Below w.heap.size w w4 := hb.trans hb4
        go_roundw
        case rel => exact ⟨k + 1, by omega, by go_num, by show Own _ _ _ ((xs.take (k + 1)).drop m.toNat); rw [HT.out]; exact hown4, hb5⟩
        case measure => simp [intOf]; omega
      · have htk : (xs.take (k + 1)).drop m.toNat = (xs.take k).drop m.toNat := by rw [List.drop_of_length_le (by simp; omega), List.drop_of_length_le (by simp; omega)]
        have HT := Lib.hid htk
        clear htk hxk hlk
        go_wp2
        go_roundw
        case rel => exact ⟨k + 1, by omega, by go_num, by show Own _ _ _ ((xs.take (k + 1)).drop m.toNat); rw [HT.out]; exact hown, hb⟩
        case measure => simp [intOf]; omega
    · have hz : xs.take k = xs := List.take_of_length_le (by have := HN.out; omega)
      have HR : Hid (Own wr w.heap.size u5 (xs.drop m.toNat)) := Lib.hid (by simpa [hz] using hown)
      clear hz hown
      go_wp2
      go_ret
      exact ⟨_, rfl, HR.out, hb⟩


end Go.Proofs.Ytndocahooajfgaa
