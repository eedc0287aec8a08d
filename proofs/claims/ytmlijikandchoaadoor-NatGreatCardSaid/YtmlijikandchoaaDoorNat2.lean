/- Which number is greater: Cmp; and which lists are long. -/
import Derived.Test.YtmlijikandchoaaDoorNat1
namespace Go.Proofs.YtmlijikandchoaaDoor
open Go.RowKit NatMath

theorem long_any (A : Option Addr) (n cap : Nat) (w : World) : Calls Tryd.prog 11 #[.slice A n cap] w (fun e w' => e = .returned (.bool (decide (8 < n))) ∧ w = w') := by
  go_enter Tryd.func11, Tryd.ntmps11
  go_wp2
  go_ret
  exact ⟨by simp; omega, rfl⟩

def CmpRel (w : World) (n : Nat) (xs ys : List Nat) (i : Value) (wr : World) : Prop :=
  ∃ (k : Nat) (z : Int), k ≤ n ∧ z + 1 = (k : Int) ∧ i = .int .i64 z ∧ xs.drop k = ys.drop k ∧ Below w.heap.size w wr

set_option maxRecDepth 100000 in
set_option maxHeartbeats 400000 in
theorem cmp_any (v u : Value) (xs ys : List Nat) (w : World) (h : SU w v xs) (h' : SU w u ys) (hx : Dig B64 xs) (hy : Dig B64 ys) (hn : xs.length ≤ 4000000) (hn' : ys.length ≤ 4000000) :
    Calls Tryd.prog 31 #[v, u] w (RetV w (.int .i64 (cmpI (val B64 xs) (val B64 ys)))) := by
  obtain ⟨A, cap, rfl, hcap, hs⟩ := h
  obtain ⟨A', cap', rfl, hcap', hs'⟩ := h'
  have H1 := Lib.hid (counting_su A cap xs w hs hcap hx hn)
  have H2 := Lib.hid (counting_su A' cap' ys w hs' hcap' hy hn')
  have HS := Lib.hid (sees_counting hs hx)
  have HS' := Lib.hid (sees_counting hs' hy)
  have hle := digs_len_le hx
  have hle' := digs_len_le hy
  clear hs hs' hx hy
  generalize val B64 xs = a at *
  generalize val B64 ys = b at *
  generalize xs.length = l at *
  generalize ys.length = l' at *
  clear xs ys
  by_cases hl : (digs B64 a).length = (digs B64 b).length
  · rw [← hl] at H2 hle'
    have HN' := Lib.hid hl
    clear hl
    obtain ⟨n, hnx⟩ : ∃ n, n = (digs B64 a).length := ⟨_, rfl⟩
    rw [← hnx] at H1 H2 hle hle' HN'
    have HN := Lib.hid hnx
    clear hnx
    go_enter Tryd.func31, Tryd.ntmps31
    go_wp2_with fail
    refine H1.out.mono ?_
    rintro e w1 ⟨rfl, rfl⟩
    go_wp2_with fail
    refine H2.out.mono ?_
    rintro e w1 ⟨rfl, rfl⟩
    go_wp2
    go_loopw [7] (CmpRel w n (digs B64 a) (digs B64 b)) (fun i _ => (intOf i + 1).toNat)
    case atStart => exact ⟨n, (n : Int) - 1, Nat.le_refl _, by omega, rfl, by rw [List.drop_eq_nil_of_le (by have := HN.out; omega), List.drop_eq_nil_of_le (by have := HN'.out; omega)], Below.refl _ _⟩
    case round =>
      obtain ⟨k, z, hk, hz, rfl, hd, hb⟩ := hrel
      have HD := Lib.hid hd
      clear hd
      rcases Nat.eq_zero_or_pos k with rfl | hk0
      · obtain rfl : z = -1 := by omega
        have hab : a = b := digs_inj B64_two (by simpa using HD.out)
        subst hab
        go_wp2
        go_ret
        exact ⟨by rw [cmpI_eq]; rfl, hb⟩
      · obtain ⟨m, rfl⟩ : ∃ m, k = m + 1 := ⟨k - 1, by omega⟩
        obtain rfl : z = (m : Int) := by omega
        clear hz
        obtain ⟨x, hxk⟩ : ∃ x, (digs B64 a)[m]? = some x := ⟨(digs B64 a)[m]'(by have := HN.out; omega), List.getElem?_eq_getElem _⟩
        obtain ⟨y, hyk⟩ : ∃ y, (digs B64 b)[m]? = some y := ⟨(digs B64 b)[m]'(by have := HN'.out; omega), List.getElem?_eq_getElem _⟩
        obtain ⟨ad, rfl, hbl, hcell⟩ := (HS.out.below hb) m (.int .u64 (x : Int)) (by simp [us, hxk])
        obtain ⟨ad', rfl, hbl', hcell'⟩ := (HS'.out.below hb) m (.int .u64 (y : Int)) (by simp [us, hyk])
        have HXK := Lib.hid hxk
        have HYK := Lib.hid hyk
        clear hxk hyk
        by_cases hxy : x = y
        · subst hxy
          go_wp2
          go_quiet (fail)
          go_wp2
          go_roundw
          case rel => exact ⟨m, (m : Int) - 1, by omega, by omega, by first | rfl | go_num, by rw [drop_cons HXK.out, drop_cons HYK.out, HD.out], below_drewN hb _⟩
          case measure => simp [intOf]
        · have hne : ((x : Int) != (y : Int)) = true := by rw [bne_iff_ne]; omega
          have hne2 : ((x : Int) == (y : Int)) = false := by rw [beq_eq_false_iff_ne]; omega
          have hdec : cmpI a b = if decide ((x : Int) < (y : Int)) then -1 else 1 := by
            obtain ⟨l1, g1⟩ := List.getElem?_eq_some_iff.1 HXK.out
            obtain ⟨l2, g2⟩ := List.getElem?_eq_some_iff.1 HYK.out
            have hll : (digs B64 a).length = (digs B64 b).length := by rw [← HN.out, ← HN'.out]
            by_cases hlt : x < y
            · have := val_cmp (digs_dig B64_two a) hll m l1 HD.out (by rw [g1, g2]; exact hlt)
              rw [digs_val B64_two, digs_val B64_two] at this
              rw [cmpI_lt this, decide_eq_true (by omega)]; rfl
            · have := val_cmp (digs_dig B64_two b) hll.symm m l2 HD.out.symm (by rw [g1, g2]; omega)
              rw [digs_val B64_two, digs_val B64_two] at this
              rw [cmpI_gt this, decide_eq_false (by omega)]; rfl
          rw [hdec]
          clear hdec hxy
          obtain ⟨t, ht⟩ : ∃ t, t = decide ((x : Int) < (y : Int)) := ⟨_, rfl⟩
          rw [← ht]
          have HT := Lib.hid ht
          clear ht
          by_cases hlt : (x : Int) < (y : Int)
          · have htt : t = true := by rw [HT.out]; exact decide_eq_true hlt
            subst htt
            go_wp2
            go_quiet (fail)
            have hb2 := below_drewN hb nq
            have hc2 : (wr.drewN nq).cell? (ad.add m) = some (.int .u64 (x : Int)) := hcell
            have hc2' : (wr.drewN nq).cell? (ad'.add m) = some (.int .u64 (y : Int)) := hcell'
            clear hcell hcell'
            generalize wr.drewN nq = w2 at *
            go_wp2
            go_quiet ((go_at_call 54; exact Calls.quiet_of_same ((sign_any true _).mono fun _ _ h => ⟨h.1, h.2.symm⟩)))
            go_wp2
            go_ret
            exact ⟨rfl, below_drewN hb2 _⟩
          · have htt : t = false := by rw [HT.out]; exact decide_eq_false hlt
            subst htt
            have hlt2 : decide (x < y) = false := decide_eq_false (by omega)
            clear hlt
            go_wp2
            go_quiet (fail)
            have hb2 := below_drewN hb nq
            have hc2 : (wr.drewN nq).cell? (ad.add m) = some (.int .u64 (x : Int)) := hcell
            have hc2' : (wr.drewN nq).cell? (ad'.add m) = some (.int .u64 (y : Int)) := hcell'
            clear hcell hcell'
            generalize wr.drewN nq = w2 at *
            go_wp2
            go_quiet ((go_at_call 54; exact Calls.quiet_of_same ((sign_any false _).mono fun _ _ h => ⟨h.1, h.2.symm⟩)))
            go_wp2
            go_ret
            exact ⟨rfl, below_drewN hb2 _⟩
  · have hdec : cmpI a b = if decide ((digs B64 a).length < (digs B64 b).length) then -1 else 1 := by
      by_cases hlt : (digs B64 a).length < (digs B64 b).length
      · have := val_len B64_two (digs_dig B64_two a) (digs_top B64_two b) hlt
        rw [digs_val B64_two, digs_val B64_two] at this
        rw [cmpI_lt this, decide_eq_true hlt]; rfl
      · have := val_len B64_two (digs_dig B64_two b) (digs_top B64_two a) (by omega)
        rw [digs_val B64_two, digs_val B64_two] at this
        rw [cmpI_gt this, decide_eq_false hlt]; rfl
    rw [hdec]
    clear hdec
    clear HS HS'
    generalize (digs B64 a).length = n at *
    generalize (digs B64 b).length = n' at *
    have hne : ((n : Int) != (n' : Int)) = true := by rw [bne_iff_ne]; omega
    have hne2 : ((n : Int) == (n' : Int)) = false := by rw [beq_eq_false_iff_ne]; omega
    clear hl
    by_cases hlt : n < n'
    · have htt : decide (n < n') = true := decide_eq_true hlt
      rw [htt]
      go_enter Tryd.func31, Tryd.ntmps31
      go_wp2_with fail
      refine H1.out.mono ?_
      rintro e w1 ⟨rfl, rfl⟩
      go_wp2_with fail
      refine H2.out.mono ?_
      rintro e w1 ⟨rfl, rfl⟩
      go_wp2_with fail
      refine (sign_any true _).mono ?_
      rintro e w1 ⟨rfl, rfl⟩
      go_wp2
      go_ret
      exact ⟨rfl, Below.refl _ _⟩
    · have htt : decide (n < n') = false := decide_eq_false hlt
      rw [htt]
      go_enter Tryd.func31, Tryd.ntmps31
      go_wp2_with fail
      refine H1.out.mono ?_
      rintro e w1 ⟨rfl, rfl⟩
      go_wp2_with fail
      refine H2.out.mono ?_
      rintro e w1 ⟨rfl, rfl⟩
      go_wp2_with fail
      refine (sign_any false _).mono ?_
      rintro e w1 ⟨rfl, rfl⟩
      go_wp2
      go_ret
      exact ⟨rfl, Below.refl _ _⟩

end Go.Proofs.YtmlijikandchoaaDoor
