/- The document's digits: Digits, trim, Words, counting. -/
import Derived.Test.YtmlijikandchoaaDoorRef1
namespace Go.Proofs.YtmlijikandchoaaDoor
open Go.RowKit NatMath

def DigOut (w : World) (n : Nat) (xs : List Nat) (d i : Value) (wr : World) : Prop :=
  ∃ (k : Nat) (z : Int), k ≤ n ∧ z + 1 = (k : Int) ∧ i = .int .i64 z ∧ SI wr d (digs 10 (val B64 (xs.drop k))) ∧ Below w.heap.size w wr
def DigIn (w : World) (V x : Nat) (d bit : Value) (wr : World) : Prop :=
  ∃ j : Nat, j ≤ 64 ∧ bit = .int .u64 ((pw j : Nat) : Int) ∧ SI wr d (digs 10 (V * 2 ^ (64 - j) + x / 2 ^ j)) ∧ Below w.heap.size w wr

set_option maxRecDepth 100000 in
set_option maxHeartbeats 400000 in
theorem digits_any (v : Value) (xs : List Nat) (w : World) (h : SU w v xs) (hx : Dig B64 xs) (hn : xs.length ≤ 100) :
    Calls Tryd.prog 12 #[v] w (RetI w (digs 10 (val B64 xs))) := by
  obtain ⟨A, cap, rfl, hcap, hs⟩ := h
  have HS := Lib.hid hs
  have HX := Lib.hid hx
  clear hs hx
  obtain ⟨n, hnx⟩ : ∃ n, n = xs.length := ⟨_, rfl⟩
  rw [← hnx] at hcap hn ⊢
  have HN := Lib.hid hnx
  clear hnx
  go_enter Tryd.func12, Tryd.ntmps12
  go_wp2
  go_loopw [3, 4] (DigOut w n xs) (fun _ i _ => (intOf i + 1).toNat)
  case atStart =>
    refine ⟨n, (n : Int) - 1, Nat.le_refl _, by omega, rfl, ?_, Below.refl _ _⟩
    rw [List.drop_eq_nil_of_le (by have := HN.out; omega)]
    exact SI.nil _
  case round =>
    obtain ⟨k, z, hk, hz, rfl, hd, hb⟩ := hrel
    rcases Nat.eq_zero_or_pos k with rfl | hk0
    · obtain rfl : z = -1 := by omega
      go_wp2
      go_ret
      exact ⟨_, rfl, by simpa using hd, hb⟩
    · obtain ⟨m, rfl⟩ : ∃ m, k = m + 1 := ⟨k - 1, by omega⟩
      obtain rfl : z = (m : Int) := by omega
      clear hz
      obtain ⟨x, hxk⟩ : ∃ x, xs[m]? = some x := ⟨xs[m]'(by have := HN.out; omega), List.getElem?_eq_getElem _⟩
      have hxB : x < B64 := HX.out x (List.mem_of_getElem? hxk)
      have HXB := Lib.hid hxB
      clear hxB
      have HXK := Lib.hid hxk
      clear hxk
      go_wp2
      obtain ⟨V, hV⟩ : ∃ V, V = val B64 (xs.drop (m + 1)) := ⟨_, rfl⟩
      rw [← hV] at hd
      have HV := Lib.hid hV
      clear hV
      go_loopw [3, 5] (DigIn w V x) (fun _ b _ => (intOf b).toNat)
      case atStart =>
        refine ⟨64, Nat.le_refl _, by rw [pw_top], ?_, hb⟩
        have hx0 : x / 2 ^ 64 = 0 := Nat.div_eq_of_lt (by have := HXB.out; rwa [B64_eq] at this)
        rw [hx0]; simpa using hd
      case round =>
        obtain ⟨j, hj, rfl, hd2, hb2⟩ := hrel
        rcases Nat.eq_zero_or_pos j with rfl | hj0
        · rw [pw_zero]
          go_wp2
          have hfin : SI wr u3 (digs 10 (val B64 (xs.drop m))) := by
            rw [drop_cons HXK.out]
            simp only [val]
            rw [← HV.out]
            have e : V * 2 ^ (64 - 0) + x / 2 ^ 0 = x + B64 * V := by rw [B64_eq, Nat.mul_comm]; simp [Nat.add_comm]
            rw [← e]; exact hd2
          go_roundw
          case rel => exact ⟨m, (m : Int) - 1, by omega, by omega, by first | rfl | go_num, hfin, hb2⟩
          case measure => simp [intOf]
        · obtain ⟨b, hbj⟩ : ∃ b, b = pw j := ⟨_, rfl⟩
          rw [← hbj]
          have hb0 : 0 < b := by rw [hbj]; exact pw_pos hj0
          have hb63 : b ≤ 9223372036854775808 := by rw [hbj]; exact pw_le hj
          have HBJ := Lib.hid hbj
          clear hbj
          obtain ⟨ad, rfl, hbl, hcell⟩ := (HS.out.below hb2) m (.int .u64 (x : Int)) (by simp [us, HXK.out])
          obtain ⟨q, hq⟩ : ∃ q, q = x / b := ⟨_, rfl⟩
          have hwr : IntKind.u64.wrap ((x : Int) / (b : Int)) = (q : Int) := by
            rw [hq]
            have h1 : x / b ≤ x := Nat.div_le_self _ _
            have h2 := HXB.out
            unfold B64 at h2
            have e : ((x : Int) / (b : Int)) = ((x / b : Nat) : Int) := rfl
            rw [e]
            exact IntWalk.u64_in _ ⟨by omega, by omega⟩
          have HQ := Lib.hid hq
          clear hq
          have hlen : (digs 10 (V * 2 ^ (64 - j) + x / 2 ^ j)).length ≤ 1000000 := by
            have h1 := dig_bound (dig_drop HX.out (m + 1)) HXB.out hj
            rw [← HV.out] at h1
            have h3 := digs_len h1
            have := HN.out
            rw [List.length_drop] at h3
            omega
          have HLEN := Lib.hid hlen
          clear hlen
          have hnx : ∀ c : Nat, c = q % 2 → digs 10 (2 * (V * 2 ^ (64 - j) + x / 2 ^ j) + c) = digs 10 (V * 2 ^ (64 - (j - 1)) + x / 2 ^ (j - 1)) := by
            rintro c rfl
            rw [← dig_step V x j hj0 hj, HQ.out, HBJ.out]
          have HNX := Lib.hid hnx
          clear hnx
          have hhalf : b / 2 = pw (j - 1) := by rw [HBJ.out]; exact pw_half hj0
          have HHALF := Lib.hid hhalf
          clear hhalf
          by_cases hpar : q % 2 = 1
          · have hpb : (((q : Int)) % 2 == 1) = true := by rw [beq_iff_eq]; omega
            have HPAR := Lib.hid hpar
            clear hpar
            go_wp2_with (go_at_call 22; refine (double_int u3 _ _ _ hd2 (by omega) (by omega) HLEN.out).mono ?_; rintro e w1 ⟨v1, rfl, hs1, hb1⟩)
            have hs2 : SI w1 v1 (digs 10 (V * 2 ^ (64 - (j - 1)) + x / 2 ^ (j - 1))) := by rw [← HNX.out (Int.toNat 1) HPAR.out.symm]; exact hs1
            go_roundw
            case rel => exact ⟨j - 1, by omega, by rw [← HHALF.out]; first | rfl | go_num, hs2, hb2.trans (hb1.mono hb2.size)⟩
            case measure => simp [intOf]; omega
          · have hpb : (((q : Int)) % 2 == 1) = false := by rw [beq_eq_false_iff_ne]; omega
            have HPAR := Lib.hid (show 0 = q % 2 by omega)
            clear hpar
            go_wp2_with (go_at_call 22; refine (double_int u3 _ _ _ hd2 (by omega) (by omega) HLEN.out).mono ?_; rintro e w1 ⟨v1, rfl, hs1, hb1⟩)
            have hs2 : SI w1 v1 (digs 10 (V * 2 ^ (64 - (j - 1)) + x / 2 ^ (j - 1))) := by rw [← HNX.out (Int.toNat 0) HPAR.out]; exact hs1
            go_roundw
            case rel => exact ⟨j - 1, by omega, by rw [← HHALF.out]; first | rfl | go_num, hs2, hb2.trans (hb1.mono hb2.size)⟩
            case measure => simp [intOf]; omega

end Go.Proofs.YtmlijikandchoaaDoor
