/- The number that is written so: Parse. -/
import Derived.Test.YtmlijikandchoaaDoorParse3
import Derived.Test.YtmlijikandchoaaDoorSums
namespace Go.Proofs.YtmlijikandchoaaDoor
open Go.RowKit NatMath

theorem not_written {s : ByteArray} {w : World} (hs : s.size ≤ 4000000) (hw : wrt s.data.toList = false) : Calls Tryd.prog 27 #[.string s] w (RetNo w) := by
  have H := Lib.hid (isWritten_any s w hs)
  rw [hw] at H
  clear hw
  go_enter Tryd.func27, Tryd.ntmps27
  go_wp2_with fail
  refine H.out.mono ?_
  rintro e w1 ⟨rfl, rfl⟩
  go_wp2
  go_ret2
  exact ⟨rfl, Below.refl _ _⟩

def ParseRel (w : World) (s : ByteArray) (v i : Value) (wr : World) : Prop :=
  ∃ k : Nat, k ≤ s.size ∧ i = .int .i64 (k : Int) ∧ (digs B64 (pv (s.data.toList.take k))).length ≤ 64 ∧ wr.ownsRow w.heap.size 36 1 v (digs B64 (pv (s.data.toList.take k))).length (us (digs B64 (pv (s.data.toList.take k)))) ∧ Below w.heap.size w wr

set_option maxRecDepth 100000 in
set_option maxHeartbeats 800000 in
theorem parse_any (s : ByteArray) (w : World) (hs : s.size ≤ 4000000) (hw : wrt s.data.toList = true) : Calls Tryd.prog 27 #[.string s] w (RetN w (pv s.data.toList)) := by
  have H := Lib.hid (isWritten_any s w hs)
  rw [hw] at H
  have HALL := Lib.hid (wrt_all hw)
  clear hw
  go_enter Tryd.func27, Tryd.ntmps27
  go_wp2_with fail
  refine H.out.mono ?_
  rintro e w1 ⟨rfl, rfl⟩
  go_wp2
  go_loopw [4, 11] (fun v i wr => ParseRel w s v i wr) (fun _ i _ => s.size - (intOf i).toNat)
  case atStart => exact ⟨0, Nat.zero_le _, rfl, by rw [List.take_zero]; decide, World.ownsRow_nil _ _ _ _, Below.refl _ _⟩
  case round =>
    obtain ⟨k, hk, rfl, hl64, hown, hb⟩ := hrel
    by_cases hlt : k < s.size
    · obtain ⟨d1, d2⟩ := dig_at' HALL.out hlt
      have hpv : pv (s.data.toList.take (k + 1)) = 10 * pv (s.data.toList.take k) + (s[k].toNat - 48) := by rw [str_take hlt, pv_snoc]
      have HPV := Lib.hid hpv
      have HOWN := Lib.hid hown
      have HL64 := Lib.hid hl64
      clear hpv hown hl64
      have HAD : Hid (Calls Tryd.prog 53 #[u4, .int .u64 (((s[k].toNat : Nat) : Int) - 48)] wr (AppPost w (pv (s.data.toList.take (k + 1))))) := by
        have h1 := appendDigit_any u4 (pv (s.data.toList.take k)) (((s[k].toNat : Nat) : Int) - 48) w wr HOWN.out (by have := HL64.out; omega) (by omega) (by omega) hb
        rw [show (((s[k].toNat : Nat) : Int) - 48).toNat = s[k].toNat - 48 by omega, ← HPV.out] at h1
        exact h1
      go_wp2_with fail
      refine HAD.out.mono ?_
      rintro e w2 ⟨v2, rfl, hown2, hb2⟩
      obtain ⟨A2, c2, hv2⟩ := own_len hown2
      obtain ⟨M, hM⟩ : ∃ M, M = pv (s.data.toList.take (k + 1)) := ⟨_, rfl⟩
      rw [← hM] at hown2 hv2
      have HM := Lib.hid hM
      clear hM
      obtain ⟨n2, hn2⟩ : ∃ n, n = (digs B64 M).length := ⟨_, rfl⟩
      rw [← hn2] at hown2 hv2
      have HN2 := Lib.hid hn2
      clear hn2
      subst hv2
      have hn2B : n2 ≤ 100000000 := by
        have h1 := HL64.out
        have h2 : M ≤ 10 * pv (s.data.toList.take k) + 9 := by rw [HM.out, HPV.out]; omega
        have h3 : (digs B64 M).length ≤ 66 := by
          refine len_of_lt (Nat.lt_of_le_of_lt h2 ?_)
          have h4 := lt_of_len h1
          have h5 : B64 ^ 66 = B64 ^ 64 * B64 * B64 := by rw [Nat.pow_succ, Nat.pow_succ]
          rw [h5]
          have h6 : 1 ≤ B64 ^ 64 := Nat.pow_pos (by decide)
          have h7 : B64 ^ 64 * 100 ≤ B64 ^ 64 * B64 * B64 := by rw [Nat.mul_assoc]; exact Nat.mul_le_mul_left _ (by decide)
          generalize B64 ^ 64 = P at *
          omega
        rw [HN2.out]; omega
      by_cases h64 : 64 < n2
      · have hbig : 64 < (digs B64 (pv s.data.toList)).length := by
          rcases Nat.lt_or_ge 64 (digs B64 (pv s.data.toList)).length with h | h
          · exact h
          · have := fit_le h (show M ≤ pv s.data.toList by rw [HM.out]; exact pv_take_le _ _)
            have := HN2.out
            omega
        have HBIG := Lib.hid hbig
        clear hbig
        go_wp2
        go_ret2
        exact ⟨_, _, rfl, hb2, .inr ⟨HBIG.out, rfl, rfl⟩⟩
      · have h64' : n2 ≤ 64 := by omega
        have hr : ParseRel w s (.slice A2 n2 c2) (.int .i64 ((k + 1 : Nat) : Int)) w2 :=
          ⟨k + 1, by omega, rfl, by rw [← HM.out, ← HN2.out]; exact h64', by rw [← HM.out, ← HN2.out]; exact hown2, hb2⟩
        rw [show ((k + 1 : Nat) : Int) = (k : Int) + 1 by simp] at hr
        have HR := Lib.hid hr
        clear hr
        go_wp2
        go_roundw
        case rel => exact HR.out
        case measure => simp [intOf]; omega
    · rw [List.take_of_length_le (by rw [str_size]; omega)] at hl64 hown
      have HL64 := Lib.hid hl64
      have HSU := Lib.hid (SU.own hown)
      clear hown hl64
      go_wp2
      go_ret2
      exact ⟨_, _, rfl, hb, .inl ⟨HL64.out, rfl, HSU.out⟩⟩
end Go.Proofs.YtmlijikandchoaaDoor
