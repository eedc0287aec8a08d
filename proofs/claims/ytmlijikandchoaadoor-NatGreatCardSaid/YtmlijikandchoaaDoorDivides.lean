/- Quotient and rest of any number by any word: the walk of the statement NatDivides. -/
import Derived.Test.YtmlijikandchoaaDoorNat6
import Derived.Test.YtmlijikandchoaaDoorRef6
import Derived.Test.YtmlijikandchoaaDoorSums
namespace Go.Proofs.YtmlijikandchoaaDoor
open Go.RowKit NatMath

theorem digs10_small {a k : Nat} (ha : (digs B64 a).length ≤ k) : (digs 10 a).length ≤ 64 * k + 1 := by
  have h1 := lt_of_len ha
  rw [B64_eq, ← Nat.pow_mul] at h1
  exact digs_len h1

set_option maxRecDepth 100000 in
set_option maxHeartbeats 800000 in
theorem divides_short (v : Value) (xs : List Nat) (m : Nat) (w : World) (h : SU w v xs) (hx : Dig B64 xs) (htab : Tab w) (hl0 : xs.length ≤ 8) (hmB : m < 18446744073709551616) :
    Calls Tryd.prog 5 #[v, .int .u64 (m : Int)] w (RetV w (.bool true)) := by
  obtain ⟨A0, cap0, rfl, hcap0, hs0⟩ := h
  have e0 : decide (8 < xs.length) = false := decide_eq_false (by omega)
  have HD0 := Lib.hid (digs10_short hx hl0)
  have HX0 := Lib.hid hx
  have HS0 := Lib.hid hs0
  have HT := Lib.hid (alive_any w htab)
  have HTAB := Lib.hid htab
  clear hs0 hx htab
  have hfa := fit8 HX0.out hl0
  have hdx := dec_fit hfa (by omega)
  have HMB := Lib.hid (show m < B64 from hmB)
  by_cases hm0 : m = 0
  · subst hm0
    go_enter Tryd.func5, Tryd.ntmps5
    go_wp2_with fail
    refine HT.out.mono ?_
    rintro e w1 ⟨rfl, hb1⟩
    go_wp2_with fail
    refine (long_any _ _ _ _).mono ?_
    rw [e0]
    rintro e w2 ⟨rfl, rfl⟩
    have s1 : SU w1 (.slice A0 xs.length cap0) xs := ⟨A0, cap0, rfl, hcap0, HS0.out.below hb1⟩
    go_wp2_with fail
    refine (div_zero _ xs _ s1 HX0.out (by omega) (by omega)).mono ?_
    rintro e w2 ⟨rfl, rfl⟩
    go_wp2
    go_ret
    exact ⟨rfl, hb1⟩
  · have hmp : 0 < m := by omega
    have hme : ((m : Int) == 0) = false := by rw [beq_eq_false_iff_ne]; omega
    obtain ⟨r, hr⟩ : ∃ r, r = val B64 xs % m := ⟨_, rfl⟩
    obtain ⟨Q, hQ⟩ : ∃ r, r = val B64 xs / m := ⟨_, rfl⟩
    have hrm : r < m := by rw [hr]; exact Nat.mod_lt _ hmp
    have hQx : Q * m + r = val B64 xs := by rw [hQ, hr]; exact Nat.div_add_mod' _ _
    have hfq := fit_le hfa (show Q ≤ val B64 xs by rw [hQ]; exact Nat.div_le_self _ _)
    have hfqm := fit_le hfa (show Q * m ≤ val B64 xs by omega)
    have hdq := dec_fit hfq (by omega)
    have hdqm := dec_fit hfqm (by omega)
    have HR := Lib.hid hr
    have HQ := Lib.hid hQ
    have HQX := Lib.hid hQx
    have HDM := Lib.hid (show Dig B64 [m] from dig_cons.2 ⟨HMB.out, dig_nil _⟩)
    have HDR := Lib.hid (show Dig B64 [r] from dig_cons.2 ⟨Nat.lt_trans hrm HMB.out, dig_nil _⟩)
    have hdm := dec_fit (len_small HMB.out) (by omega)
    have hdr := dec_fit (len_small (Nat.lt_trans hrm HMB.out)) (by omega)
    have htop : ((((digs B64 Q).length : Nat) : Int) == (((digs B64 Q).length : Nat) : Int)) = true := by simp
    clear hr hQ hQx hm0 htop
    go_enter Tryd.func5, Tryd.ntmps5
    go_wp2_with fail
    refine HT.out.mono ?_
    rintro e w1 ⟨rfl, hb1⟩
    go_wp2_with fail
    refine (long_any _ _ _ _).mono ?_
    rw [e0]
    rintro e w2 ⟨rfl, rfl⟩
    have s1 : SU w1 (.slice A0 xs.length cap0) xs := ⟨A0, cap0, rfl, hcap0, HS0.out.below hb1⟩
    have hdv := div_any _ xs m _ s1 HX0.out (by omega) (by omega) hmp hmB
    rw [← HR.out, ← HQ.out] at hdv
    have HDV := Lib.hid hdv
    clear hdv
    go_wp2_with fail
    refine HDV.out.mono ?_
    rintro e w2 ⟨q, rfl, sq, hb2⟩
    obtain ⟨Aq, cq, hqv, hcq, hsq⟩ := sq
    subst hqv
    have sq : SU w2 (.slice Aq (digs B64 Q).length cq) (digs B64 Q) := ⟨Aq, cq, rfl, hcq, hsq⟩
    have HSQ := Lib.hid hsq
    have hdg := digits_any _ (digs B64 Q) _ sq (digs_dig B64_two Q) (by omega)
    rw [digs_val B64_two] at hdg
    have HDG := Lib.hid hdg
    clear hdg hsq
    go_wp2_with fail
    refine HDG.out.mono ?_
    rintro e w3 ⟨vq, rfl, sdq, hb3⟩
    go_wp2_with fail
    have sm : SU (w3.alloc (.cells #[.int .u64 (m : Int)] 36)) (.slice (some ⟨w3.heap.size, 0, none⟩) 1 1) [m] := SU.new [m]
    refine (digits_any _ [m] _ sm HDM.out (by simp)).mono ?_
    rw [val_single]
    rintro e w4 ⟨vm, rfl, sdm, hb4⟩
    go_wp2_with fail
    refine (mulD_any _ _ _ _ _ (sdq.below (below_next (below_new _ _) hb4)) sdm (by have := digs10_small hfq; omega) (by have := digs10_small (len_small HMB.out); omega)).mono ?_
    rintro e w5 ⟨vp, rfl, sp, hb5⟩
    go_wp2_with fail
    have sr : SU (w5.alloc (.cells #[.int .u64 (r : Int)] 36)) (.slice (some ⟨w5.heap.size, 0, none⟩) 1 1) [r] := SU.new [r]
    refine (digits_any _ [r] _ sr HDR.out (by simp)).mono ?_
    rw [val_single]
    rintro e w6 ⟨vr, rfl, sdr, hb6⟩
    go_wp2_with fail
    refine (addD_any _ _ _ _ _ (sp.below (below_next (below_new _ _) hb6)) sdr hdqm hdr).mono ?_
    rw [HQX.out]
    rintro e w7 ⟨vx, rfl, sx, hb7⟩
    have hb27 := below_next (below_next (below_next (below_next (below_next (below_next hb3 (below_new _ _)) hb4) hb5) (below_new _ _)) hb6) hb7
    have hwd := words_any Aq cq (digs B64 Q) w7 (HSQ.out.below hb27) (by omega)
    rw [show cnt (digs B64 Q) = (digs B64 Q).length from digs_top B64_two Q] at hwd
    have HWD := Lib.hid hwd
    clear hwd
    go_wp2_with fail
    refine HWD.out.mono ?_
    rintro e w8 ⟨rfl, rfl⟩
    have s7 : SU w7 (.slice A0 xs.length cap0) xs := s1.below (below_next hb2 hb27)
    go_wp2_with fail
    refine (digits_any _ xs _ s7 HX0.out (by omega)).mono ?_
    rintro e w8 ⟨va, rfl, sa, hb8⟩
    go_wp2_with fail
    refine (same_any _ _ _ _ _ (sx.below hb8) sa (by omega) (by omega)).mono ?_
    rw [decide_eq_true (rfl : val B64 xs = val B64 xs)]
    rintro e w9 ⟨rfl, hb9⟩
    go_wp2
    go_ret
    exact ⟨rfl, below_next (below_next (below_next (below_next hb1 hb2) hb27) hb8) hb9⟩

set_option maxRecDepth 100000 in
set_option maxHeartbeats 400000 in
theorem divides_any (v : Value) (xs : List Nat) (m : Nat) (w : World) (h : SU w v xs) (hx : Dig B64 xs) (htab : Tab w) (hmB : m < 18446744073709551616) :
    Calls Tryd.prog 5 #[v, .int .u64 (m : Int)] w (RetV w (.bool true)) := by
  by_cases hl0 : 8 < xs.length
  · obtain ⟨A0, cap0, rfl, hcap0, hs0⟩ := h
    have HT := Lib.hid (alive_any w htab)
    have e0 : decide (8 < xs.length) = true := decide_eq_true hl0
    clear hs0 hx htab
    go_enter Tryd.func5, Tryd.ntmps5
    go_wp2_with fail
    refine HT.out.mono ?_
    rintro e w1 ⟨rfl, hb1⟩
    go_wp2_with fail
    refine (long_any _ _ _ _).mono ?_
    rw [e0]
    rintro e w2 ⟨rfl, rfl⟩
    go_wp2
    go_ret
    exact ⟨rfl, hb1⟩
  · exact divides_short v xs m w h hx htab (by omega) hmB

end Go.Proofs.YtmlijikandchoaaDoor
