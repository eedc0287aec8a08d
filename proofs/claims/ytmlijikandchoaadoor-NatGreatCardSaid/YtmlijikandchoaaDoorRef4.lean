/- Digits compared: Less, Same, SameWords, Is. -/
import Derived.Test.YtmlijikandchoaaDoorRef2
import Derived.Test.YtmlijikandchoaaDoorRef3
namespace Go.Proofs.YtmlijikandchoaaDoor
open Go.RowKit NatMath

def LessRel (w : World) (n : Nat) (xs ys : List Nat) (i : Value) (wr : World) : Prop :=
  ∃ (k : Nat) (z : Int), k ≤ n ∧ z + 1 = (k : Int) ∧ i = .int .i64 z ∧ xs.drop k = ys.drop k ∧ Below w.heap.size w wr

set_option maxRecDepth 100000 in
set_option maxHeartbeats 400000 in
theorem less_any (v u : Value) (a b : Nat) (w : World) (h : SI w v (digs 10 a)) (h' : SI w u (digs 10 b)) (_hn : (digs 10 a).length ≤ 4000000) (hn' : (digs 10 b).length ≤ 4000000) :
    Calls Tryd.prog 17 #[v, u] w (RetV w (.bool (decide (a < b)))) := by
  obtain ⟨A, cap, rfl, hcap, hs⟩ := h
  obtain ⟨A', cap', rfl, hcap', hs'⟩ := h'
  have HS := Lib.hid hs
  have HS' := Lib.hid hs'
  clear hs hs'
  by_cases hl : (digs 10 a).length = (digs 10 b).length
  · obtain ⟨n, hnx⟩ : ∃ n, n = (digs 10 a).length := ⟨_, rfl⟩
    rw [← hnx] at hl hcap _hn ⊢
    rw [← hl] at hcap' hn' ⊢
    have HN := Lib.hid hnx
    have HN' := Lib.hid hl
    clear hnx hl
    go_enter Tryd.func17, Tryd.ntmps17
    go_wp2
    go_loopw [5] (LessRel w n (digs 10 a) (digs 10 b)) (fun i _ => (intOf i + 1).toNat)
    case atStart => exact ⟨n, (n : Int) - 1, Nat.le_refl _, by omega, rfl, by rw [List.drop_eq_nil_of_le (by have := HN.out; omega), List.drop_eq_nil_of_le (by have := HN'.out; omega)], Below.refl _ _⟩
    case round =>
      obtain ⟨k, z, hk, hz, rfl, hd, hb⟩ := hrel
      have HD := Lib.hid hd
      clear hd
      rcases Nat.eq_zero_or_pos k with rfl | hk0
      · obtain rfl : z = -1 := by omega
        have hab : a = b := digs_inj (b := 10) (by omega) (by simpa using HD.out)
        subst hab
        go_wp2
        go_ret
        exact ⟨by simp, hb⟩
      · obtain ⟨m, rfl⟩ : ∃ m, k = m + 1 := ⟨k - 1, by omega⟩
        obtain rfl : z = (m : Int) := by omega
        clear hz
        obtain ⟨x, hxk⟩ : ∃ x, (digs 10 a)[m]? = some x := ⟨(digs 10 a)[m]'(by have := HN.out; omega), List.getElem?_eq_getElem _⟩
        obtain ⟨y, hyk⟩ : ∃ y, (digs 10 b)[m]? = some y := ⟨(digs 10 b)[m]'(by have := HN'.out; omega), List.getElem?_eq_getElem _⟩
        obtain ⟨ad, rfl, hbl, hcell⟩ := (HS.out.below hb) m (.int .i64 (x : Int)) (by simp [is, hxk])
        obtain ⟨ad', rfl, hbl', hcell'⟩ := (HS'.out.below hb) m (.int .i64 (y : Int)) (by simp [is, hyk])
        have HXK := Lib.hid hxk
        have HYK := Lib.hid hyk
        clear hxk hyk
        by_cases hxy : x = y
        · subst hxy
          go_wp2
          go_quiet (fail)
          go_wp2
          go_roundw
          case rel => exact ⟨m, (m : Int) - 1, by omega, by omega, by first | rfl | go_num, by rw [drop_cons HXK.out, drop_cons HYK.out, HD.out], below_drewN hb _⟩
          case measure => simp [intOf]
        · have hne : ((x : Int) != (y : Int)) = true := by rw [bne_iff_ne]; omega
          have hne2 : ((x : Int) == (y : Int)) = false := by rw [beq_eq_false_iff_ne]; omega
          have hdec : decide (a < b) = decide ((x : Int) < (y : Int)) := by
            obtain ⟨l1, g1⟩ := List.getElem?_eq_some_iff.1 HXK.out
            obtain ⟨l2, g2⟩ := List.getElem?_eq_some_iff.1 HYK.out
            have hll : (digs 10 a).length = (digs 10 b).length := by rw [← HN.out, ← HN'.out]
            by_cases hlt : x < y
            · have := val_cmp (b := 10) (digs_dig (by omega) a) hll m l1 HD.out (by rw [g1, g2]; exact hlt)
              rw [digs_val (by omega), digs_val (by omega)] at this
              rw [decide_eq_true this, decide_eq_true (by omega)]
            · have := val_cmp (b := 10) (digs_dig (by omega) b) hll.symm m l2 HD.out.symm (by rw [g1, g2]; omega)
              rw [digs_val (by omega), digs_val (by omega)] at this
              rw [decide_eq_false (by omega), decide_eq_false (by omega)]
          have HDEC := Lib.hid hdec
          clear hdec hxy
          go_wp2
          go_quiet (fail)
          go_wp2
          go_quiet (fail)
          go_wp2
          go_ret
          exact ⟨by rw [HDEC.out]; simp, below_drewN (below_drewN hb _) _⟩
  · have hdec : decide (a < b) = decide ((digs 10 a).length < (digs 10 b).length) := by
      by_cases hlt : (digs 10 a).length < (digs 10 b).length
      · have := val_len (b := 10) (by omega) (digs_dig (by omega) a) (digs_top (b := 10) (by omega) b) hlt
        rw [digs_val (by omega), digs_val (by omega)] at this
        rw [decide_eq_true this, decide_eq_true hlt]
      · have := val_len (b := 10) (by omega) (digs_dig (by omega) b) (digs_top (b := 10) (by omega) a) (by omega)
        rw [digs_val (by omega), digs_val (by omega)] at this
        rw [decide_eq_false (by omega), decide_eq_false hlt]
    have HDEC := Lib.hid hdec
    clear hdec
    generalize (digs 10 a).length = n at *
    generalize (digs 10 b).length = n' at *
    have hne : ((n : Int) != (n' : Int)) = true := by rw [bne_iff_ne]; omega
    have hne2 : ((n : Int) == (n' : Int)) = false := by rw [beq_eq_false_iff_ne]; omega
    go_enter Tryd.func17, Tryd.ntmps17
    go_wp2
    go_ret
    exact ⟨by rw [HDEC.out]; simp, Below.refl _ _⟩

set_option maxRecDepth 100000 in
set_option maxHeartbeats 400000 in
theorem same_any (v u : Value) (a b : Nat) (w : World) (h : SI w v (digs 10 a)) (h' : SI w u (digs 10 b)) (hn : (digs 10 a).length ≤ 4000000) (hn' : (digs 10 b).length ≤ 4000000) :
    Calls Tryd.prog 25 #[v, u] w (RetV w (.bool (decide (a = b)))) := by
  by_cases hab : a < b
  · go_enter Tryd.func25, Tryd.ntmps25
    go_wp2_with (go_at_call 17; refine (less_any _ _ a b _ h h' hn hn').mono ?_; rintro e w1 ⟨rfl, hb1⟩)
    go_ret
    exact ⟨by rw [decide_eq_false (by omega : ¬ a = b)]; simp, hb1⟩
  · go_enter Tryd.func25, Tryd.ntmps25
    go_wp2_with fail
    refine (less_any _ _ a b _ h h' hn hn').mono ?_
    rintro e w1 ⟨rfl, hb1⟩
    go_wp2_with fail
    refine (less_any _ _ b a _ (h'.below hb1) (h.below hb1) hn' hn).mono ?_
    rintro e w2 ⟨rfl, hb2⟩
    have hd : decide (a = b) = !decide (b < a) := by
      by_cases h2 : b < a
      · rw [decide_eq_false (by omega), decide_eq_true h2]; rfl
      · rw [decide_eq_true (by omega), decide_eq_false h2]; rfl
    have HD := Lib.hid hd
    clear hd
    go_wp2
    go_ret
    exact ⟨by rw [HD.out]; simp, hb1.trans (hb2.mono hb1.size)⟩

def SWRel (w : World) (n : Nat) (xs ys : List Nat) (i : Value) (wr : World) : Prop :=
  ∃ k : Nat, k ≤ n ∧ i = .int .i64 (k : Int) ∧ xs.take k = ys.take k ∧ Below w.heap.size w wr

set_option maxRecDepth 100000 in
set_option maxHeartbeats 400000 in
theorem sameWords_any (v u : Value) (xs ys : List Nat) (w : World) (h : SU w v xs) (h' : SU w u ys) (_hn : xs.length ≤ 4000000) (hn' : ys.length ≤ 4000000) :
    Calls Tryd.prog 32 #[v, u] w (RetV w (.bool (decide (xs = ys)))) := by
  obtain ⟨A, cap, rfl, hcap, hs⟩ := h
  obtain ⟨A', cap', rfl, hcap', hs'⟩ := h'
  have HS := Lib.hid hs
  have HS' := Lib.hid hs'
  clear hs hs'
  by_cases hl : xs.length = ys.length
  · obtain ⟨n, hnx⟩ : ∃ n, n = xs.length := ⟨_, rfl⟩
    rw [← hnx] at hl hcap _hn ⊢
    rw [← hl] at hcap' hn' ⊢
    have HN := Lib.hid hnx
    have HN' := Lib.hid hl
    clear hnx hl
    go_enter Tryd.func32, Tryd.ntmps32
    go_wp2
    go_loopw [5] (SWRel w n xs ys) (fun i _ => n - (intOf i).toNat)
    case atStart => exact ⟨0, Nat.zero_le _, rfl, by simp, Below.refl _ _⟩
    case round =>
      obtain ⟨k, hk, rfl, hd, hb⟩ := hrel
      have HD := Lib.hid hd
      clear hd
      by_cases hlt : k < n
      · obtain ⟨x, hxk⟩ : ∃ x, xs[k]? = some x := ⟨xs[k]'(by have := HN.out; omega), List.getElem?_eq_getElem _⟩
        obtain ⟨y, hyk⟩ : ∃ y, ys[k]? = some y := ⟨ys[k]'(by have := HN'.out; omega), List.getElem?_eq_getElem _⟩
        obtain ⟨ad, rfl, hbl, hcell⟩ := (HS.out.below hb) k (.int .u64 (x : Int)) (by simp [us, hxk])
        obtain ⟨ad', rfl, hbl', hcell'⟩ := (HS'.out.below hb) k (.int .u64 (y : Int)) (by simp [us, hyk])
        have HXK := Lib.hid hxk
        have HYK := Lib.hid hyk
        clear hxk hyk
        by_cases hxy : x = y
        · subst hxy
          have hnx : xs.take (k + 1) = ys.take (k + 1) := by rw [List.take_add_one, List.take_add_one, HXK.out, HYK.out, HD.out]
          have HNX := Lib.hid hnx
          clear hnx
          go_wp2
          go_quiet (fail)
          go_wp2
          go_roundw
          case rel => exact ⟨k + 1, by omega, by go_num, HNX.out, below_drewN hb _⟩
          case measure => simp [intOf]; omega
        · have hne : ((x : Int) != (y : Int)) = true := by rw [bne_iff_ne]; omega
          have hne2 : ((x : Int) == (y : Int)) = false := by rw [beq_eq_false_iff_ne]; omega
          have hd : xs ≠ ys := by
            rintro rfl
            have := HXK.out
            rw [HYK.out] at this
            injection this with this
            exact hxy this.symm
          have HDD := Lib.hid hd
          clear hd hxy
          go_wp2
          go_quiet (fail)
          go_wp2
          go_ret
          exact ⟨by rw [decide_eq_false HDD.out]; simp, below_drewN hb _⟩
      · have he : xs = ys := by
          have h1 := HD.out
          rw [List.take_of_length_le (by have := HN.out; omega), List.take_of_length_le (by have := HN'.out; omega)] at h1
          exact h1
        have HE := Lib.hid he
        clear he
        go_wp2
        go_ret
        exact ⟨by rw [decide_eq_true HE.out]; simp, hb⟩
  · have hd : xs ≠ ys := fun e => hl (by rw [e])
    have HDD := Lib.hid hd
    clear hd
    generalize xs.length = n at *
    generalize ys.length = n' at *
    have hne : ((n : Int) != (n' : Int)) = true := by rw [bne_iff_ne]; omega
    have hne2 : ((n : Int) == (n' : Int)) = false := by rw [beq_eq_false_iff_ne]; omega
    go_enter Tryd.func32, Tryd.ntmps32
    go_wp2
    go_ret
    exact ⟨by rw [decide_eq_false HDD.out]; simp, Below.refl _ _⟩

/-- Is: words without a 0 at their end that are this number. -/
def isNum (xs : List Nat) (d : Nat) : Bool := decide (cnt xs = xs.length) && decide (val B64 xs = d)

set_option maxRecDepth 100000 in
set_option maxHeartbeats 400000 in
theorem is_any (v u : Value) (xs : List Nat) (d : Nat) (w : World) (h : SU w v xs) (h' : SI w u (digs 10 d)) (hx : Dig B64 xs) (hn : xs.length ≤ 100) (hn' : (digs 10 d).length ≤ 4000000) :
    Calls Tryd.prog 34 #[v, u] w (RetV w (.bool (isNum xs d))) := by
  have hdl : (digs 10 (val B64 xs)).length ≤ 4000000 := by
    have h1 := digs_len (val_lt_two hx)
    omega
  have HDL := Lib.hid hdl
  clear hdl
  obtain ⟨A, cap, rfl, hcap, hs⟩ := h
  have HW := Lib.hid (words_any A cap xs w hs (by omega))
  have HDG := Lib.hid (digits_any (.slice A xs.length cap) xs w ⟨A, cap, rfl, hcap, hs⟩ hx hn)
  have HS := Lib.hid hs
  have HX := Lib.hid hx
  clear hs hx
  by_cases ht : cnt xs = xs.length
  · have hb : ((cnt xs : Int) == (xs.length : Int)) = true := by rw [ht]; simp
    have HT := Lib.hid ht
    clear ht
    generalize hc : cnt xs = c at *
    have HC := Lib.hid hc
    clear hc
    generalize hl : xs.length = l at *
    have HL := Lib.hid hl
    clear hl
    go_enter Tryd.func34, Tryd.ntmps34
    go_wp2_with fail
    refine HW.out.mono ?_
    rintro e w1 ⟨rfl, rfl⟩
    go_wp2_with fail
    refine HDG.out.mono ?_
    rintro e w1 ⟨v1, rfl, hs1, hb1⟩
    go_wp2_with fail
    refine (same_any _ _ _ _ _ hs1 (h'.below hb1) HDL.out hn').mono ?_
    rintro e w2 ⟨rfl, hb2⟩
    go_wp2
    go_ret
    exact ⟨by simp [isNum, HC.out, HL.out, HT.out], hb1.trans (hb2.mono hb1.size)⟩
  · have hb : ((cnt xs : Int) == (xs.length : Int)) = false := by rw [beq_eq_false_iff_ne]; omega
    have HT := Lib.hid ht
    clear ht
    generalize hc : cnt xs = c at *
    have HC := Lib.hid hc
    clear hc
    generalize hl : xs.length = l at *
    have HL := Lib.hid hl
    clear hl
    go_enter Tryd.func34, Tryd.ntmps34
    go_wp2_with fail
    refine HW.out.mono ?_
    rintro e w1 ⟨rfl, rfl⟩
    go_wp2
    go_ret
    exact ⟨by simp [isNum, HC.out, HL.out, HT.out], Below.refl _ _⟩

end Go.Proofs.YtmlijikandchoaaDoor
