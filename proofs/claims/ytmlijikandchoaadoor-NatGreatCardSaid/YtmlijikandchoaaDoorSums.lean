/- Sums and differences of any numbers: the walk of the statement NatSums. -/
import Derived.Test.YtmlijikandchoaaDoorNat5
import Derived.Test.YtmlijikandchoaaDoorRef5
namespace Go.Proofs.YtmlijikandchoaaDoor
open Go.RowKit NatMath

theorem fit8 {xs : List Nat} (h : Dig B64 xs) (hl : xs.length ≤ 8) : (digs B64 (val B64 xs)).length ≤ 8 := Nat.le_trans (digs_len_le h) hl
theorem fit_add {a b k : Nat} (ha : (digs B64 a).length ≤ k) (hb : (digs B64 b).length ≤ k) : (digs B64 (a + b)).length ≤ k + 1 := by
  refine len_of_lt ?_
  have h1 := lt_of_len ha
  have h2 := lt_of_len hb
  rw [Nat.pow_succ]
  have h3 : B64 ^ k * 2 ≤ B64 ^ k * B64 := Nat.mul_le_mul_left _ B64_two
  omega
theorem fit_le {a b k : Nat} (ha : (digs B64 a).length ≤ k) (hb : b ≤ a) : (digs B64 b).length ≤ k := len_of_lt (Nat.lt_of_le_of_lt hb (lt_of_len ha))
theorem dec_fit {a k : Nat} (ha : (digs B64 a).length ≤ k) (hk : k ≤ 1000) : (digs 10 a).length ≤ 1000000 := by
  have h1 := lt_of_len ha
  rw [B64_eq, ← Nat.pow_mul] at h1
  have := digs_len h1
  omega

set_option maxRecDepth 100000 in
set_option maxHeartbeats 800000 in
theorem sums_short (v : Value) (u : Value) (xs : List Nat) (ys : List Nat)  (w : World) (h : SU w v xs) (h' : SU w u ys) (hx : Dig B64 xs) (hy : Dig B64 ys) (htab : Tab w) (hl0 : xs.length ≤ 8) (hl1 : ys.length ≤ 8) :
    Calls Tryd.prog 3 #[v, u] w (RetV w (.bool true)) := by
  obtain ⟨A0, cap0, rfl, hcap0, hs0⟩ := h
  obtain ⟨A1, cap1, rfl, hcap1, hs1⟩ := h'
  have e0 : decide (8 < xs.length) = false := decide_eq_false (by omega)
  have HD0 := Lib.hid (digs10_short hx hl0)
  have HX0 := Lib.hid hx
  have HS0 := Lib.hid hs0
  have e1 : decide (8 < ys.length) = false := decide_eq_false (by omega)
  have HD1 := Lib.hid (digs10_short hy hl1)
  have HX1 := Lib.hid hy
  have HS1 := Lib.hid hs1
  have HT := Lib.hid (alive_any w htab)
  have HTAB := Lib.hid htab
  clear hs0 hs1 hx hy htab
  have hfa := fit8 HX0.out hl0
  have hfb := fit8 HX1.out hl1
  have hfs := fit_add hfa hfb
  have HDS := Lib.hid (dec_fit hfs (by omega))
  have hdx := dec_fit hfa (by omega)
  have hdy := dec_fit hfb (by omega)
  go_enter Tryd.func3, Tryd.ntmps3
  go_wp2_with fail
  refine HT.out.mono ?_
  rintro e w1 ⟨rfl, hb1⟩
  go_wp2_with fail
  refine (long_any _ _ _ _).mono ?_
  rw [e0]
  rintro e w2 ⟨rfl, rfl⟩
  go_wp2_with fail
  refine (long_any _ _ _ _).mono ?_
  rw [e1]
  rintro e w2 ⟨rfl, rfl⟩
  have s1 : SU w1 (.slice A0 xs.length cap0) xs := ⟨A0, cap0, rfl, hcap0, HS0.out.below hb1⟩
  have s1' : SU w1 (.slice A1 ys.length cap1) ys := ⟨A1, cap1, rfl, hcap1, HS1.out.below hb1⟩
  go_wp2_with fail
  refine (digits_any _ xs _ s1 HX0.out (by omega)).mono ?_
  rintro e w2 ⟨vx, rfl, sx, hb2⟩
  go_wp2_with fail
  refine (digits_any _ ys _ (s1'.below hb2) HX1.out (by omega)).mono ?_
  rintro e w3 ⟨vy, rfl, sy, hb3⟩
  have hb23 := below_next hb2 hb3
  go_wp2_with fail
  refine (add_any _ _ xs ys _ (s1.below hb23) (s1'.below hb23) HX0.out HX1.out (by omega) (by omega) (by omega) (by omega)).mono ?_
  rintro e w4 ⟨vs, t, rfl, hb4, hres⟩
  have hres2 : t = true ∧ SU w4 vs (digs B64 (val B64 xs + val B64 ys)) := by
    rcases hres with ⟨_, h1, h2⟩ | ⟨h1, _⟩
    · exact ⟨h1, h2⟩
    · omega
  obtain ⟨rfl, ss⟩ := hres2
  clear hres
  have hb24 := below_next hb23 hb4
  have s4 := s1.below hb24
  have s4' := s1'.below hb24
  have sx4 := sx.below (below_next hb3 hb4)
  have sy4 := sy.below hb4
  by_cases hlt : val B64 xs < val B64 ys
  · go_wp2_with fail
    refine (sub_less _ _ xs ys _ s4 s4' HX0.out HX1.out (by omega) (by omega) (by omega) (by omega) hlt).mono ?_
    rintro e w5 ⟨rfl, hb5⟩
    go_wp2_with fail
    refine (addD_any _ _ _ _ _ (sx4.below hb5) (sy4.below hb5) hdx hdy).mono ?_
    rintro e w6 ⟨va, rfl, sa, hb6⟩
    go_wp2_with fail
    refine (told_yes _ _ _ _ (ss.below (below_next hb5 hb6)) sa (by omega) (by have := HDS.out; omega)).mono ?_
    rintro e w7 ⟨rfl, hb7⟩
    have hb57 := below_next (below_next hb5 hb6) hb7
    go_wp2_with fail
    refine (less_any _ _ _ _ _ (sx4.below hb57) (sy4.below hb57) (by omega) (by omega)).mono ?_
    rw [decide_eq_true hlt]
    rintro e w8 ⟨rfl, hb8⟩
    go_wp2
    go_ret
    exact ⟨rfl, below_next (below_next (below_next hb1 hb24) hb57) hb8⟩
  · have hle : val B64 ys ≤ val B64 xs := by omega
    have hfd := fit_le hfa (Nat.sub_le (val B64 xs) (val B64 ys))
    go_wp2_with fail
    refine (sub_any _ _ xs ys _ s4 s4' HX0.out HX1.out (by omega) (by omega) (by omega) (by omega) hle).mono ?_
    rintro e w5 ⟨vd, t, rfl, hb5, hres⟩
    have hres2 : t = true ∧ SU w5 vd (digs B64 (val B64 xs - val B64 ys)) := by
      rcases hres with ⟨_, h1, h2⟩ | ⟨h1, _⟩
      · exact ⟨h1, h2⟩
      · omega
    obtain ⟨rfl, sd⟩ := hres2
    clear hres
    go_wp2_with fail
    refine (addD_any _ _ _ _ _ (sx4.below hb5) (sy4.below hb5) hdx hdy).mono ?_
    rintro e w6 ⟨va, rfl, sa, hb6⟩
    go_wp2_with fail
    refine (told_yes _ _ _ _ (ss.below (below_next hb5 hb6)) sa (by omega) (by have := HDS.out; omega)).mono ?_
    rintro e w7 ⟨rfl, hb7⟩
    have hb57 := below_next (below_next hb5 hb6) hb7
    go_wp2_with fail
    refine (less_any _ _ _ _ _ (sx4.below hb57) (sy4.below hb57) (by omega) (by omega)).mono ?_
    rw [decide_eq_false hlt]
    rintro e w8 ⟨rfl, hb8⟩
    have hb58 := below_next hb57 hb8
    go_wp2_with fail
    refine (subD_any _ _ _ _ _ (sx4.below hb58) (sy4.below hb58) hdx hle).mono ?_
    rintro e w9 ⟨ve, rfl, se, hb9⟩
    go_wp2_with fail
    refine (told_yes _ _ _ _ (sd.below (below_next (below_next (below_next hb6 hb7) hb8) hb9)) se (by omega) (by have := dec_fit hfd (by omega); omega)).mono ?_
    rintro e w10 ⟨rfl, hb10⟩
    go_wp2
    go_ret
    exact ⟨rfl, below_next (below_next (below_next (below_next hb1 hb24) hb58) hb9) hb10⟩

set_option maxRecDepth 100000 in
set_option maxHeartbeats 400000 in
theorem sums_any (v : Value) (u : Value) (xs : List Nat) (ys : List Nat)  (w : World) (h : SU w v xs) (h' : SU w u ys) (hx : Dig B64 xs) (hy : Dig B64 ys) (htab : Tab w) :
    Calls Tryd.prog 3 #[v, u] w (RetV w (.bool true)) := by
  by_cases hl0 : 8 < xs.length
  · obtain ⟨A0, cap0, rfl, hcap0, hs0⟩ := h
    obtain ⟨A1, cap1, rfl, hcap1, hs1⟩ := h'
    have HT := Lib.hid (alive_any w htab)
    have e0 : decide (8 < xs.length) = true := decide_eq_true hl0
    clear hs0 hs1 hx hy htab
    go_enter Tryd.func3, Tryd.ntmps3
    go_wp2_with fail
    refine HT.out.mono ?_
    rintro e w1 ⟨rfl, hb1⟩
    go_wp2_with fail
    refine (long_any _ _ _ _).mono ?_
    rw [e0]
    rintro e w2 ⟨rfl, rfl⟩
    go_wp2
    go_ret
    exact ⟨rfl, hb1⟩
  · by_cases hl1 : 8 < ys.length
    · obtain ⟨A0, cap0, rfl, hcap0, hs0⟩ := h
      obtain ⟨A1, cap1, rfl, hcap1, hs1⟩ := h'
      have HT := Lib.hid (alive_any w htab)
      have e0 : decide (8 < xs.length) = false := decide_eq_false hl0
      have e1 : decide (8 < ys.length) = true := decide_eq_true hl1
      clear hs0 hs1 hx hy htab
      go_enter Tryd.func3, Tryd.ntmps3
      go_wp2_with fail
      refine HT.out.mono ?_
      rintro e w1 ⟨rfl, hb1⟩
      go_wp2_with fail
      refine (long_any _ _ _ _).mono ?_
      rw [e0]
      rintro e w2 ⟨rfl, rfl⟩
      go_wp2_with fail
      refine (long_any _ _ _ _).mono ?_
      rw [e1]
      rintro e w2 ⟨rfl, rfl⟩
      go_wp2
      go_ret
      exact ⟨rfl, hb1⟩
    · exact sums_short v u xs ys w h h' hx hy htab (by omega) (by omega)

end Go.Proofs.YtmlijikandchoaaDoor
