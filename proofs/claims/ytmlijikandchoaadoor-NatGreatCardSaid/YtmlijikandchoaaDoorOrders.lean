/- Which of two numbers is greater, and each without words 0 at its end: the statement NatOrders's walk. -/
import Derived.Test.YtmlijikandchoaaDoorAlive
namespace Go.Proofs.YtmlijikandchoaaDoor
open Go.RowKit NatMath

theorem isNum_digs (n : Nat) : isNum (digs B64 n) n = true := by
  have h : cnt (digs B64 n) = (digs B64 n).length := digs_top B64_two n
  unfold isNum
  rw [digs_val B64_two, decide_eq_true h, decide_eq_true rfl]
  rfl
theorem digs10_short {xs : List Nat} (h : Dig B64 xs) (hl : xs.length ≤ 8) : (digs 10 (val B64 xs)).length ≤ 4000000 := by
  have := digs_len (val_lt_two h)
  omega

set_option maxRecDepth 100000 in
set_option maxHeartbeats 400000 in
theorem orders_short (v u : Value) (xs ys : List Nat) (z : Int) (w : World) (h : SU w v xs) (h' : SU w u ys) (hx : Dig B64 xs) (hy : Dig B64 ys) (h0 : 0 ≤ z) (hz : z.toNat < B64) (htab : Tab w) (hl : xs.length ≤ 8) (hl' : ys.length ≤ 8) :
    Calls Tryd.prog 7 #[v, u, .int .u64 z] w (RetV w (.bool true)) := by
  obtain ⟨A, cap, rfl, hcap, hs⟩ := h
  obtain ⟨A', cap', rfl, hcap', hs'⟩ := h'
  have hdx := digs10_short hx hl
  have hdy := digs10_short hy hl'
  have e1 : decide (8 < xs.length) = false := decide_eq_false (by omega)
  have e2 : decide (8 < ys.length) = false := decide_eq_false (by omega)
  have HT := Lib.hid (alive_any w htab)
  have HX := Lib.hid hx
  have HY := Lib.hid hy
  have HS := Lib.hid hs
  have HS' := Lib.hid hs'
  obtain ⟨nz, rfl⟩ := Int.eq_ofNat_of_zero_le h0
  rw [Int.toNat_natCast] at hz
  have HDZ := Lib.hid (show Dig B64 [nz] from dig_cons.2 ⟨hz, dig_nil _⟩)
  have HZL := Lib.hid (show (digs 10 nz).length ≤ 4000000 by have := digs_len (n := nz) (m := 64) (by rw [← B64_eq]; exact hz); omega)
  have HIS := Lib.hid (show isNum (digs B64 nz) nz = true from isNum_digs nz)
  have HZ := Lib.hid hz
  clear hx hy hs hs' hz htab
  go_enter Tryd.func7, Tryd.ntmps7
  go_wp2_with fail
  refine HT.out.mono ?_
  rintro e w1 ⟨rfl, hb1⟩
  go_wp2_with fail
  refine (long_any _ _ _ _).mono ?_
  rw [e1]
  rintro e w2 ⟨rfl, rfl⟩
  go_wp2_with fail
  refine (long_any _ _ _ _).mono ?_
  rw [e2]
  rintro e w2 ⟨rfl, rfl⟩
  go_wp2_with fail
  have s1 : SU w1 (.slice A xs.length cap) xs := ⟨A, cap, rfl, hcap, HS.out.below hb1⟩
  have s1' : SU w1 (.slice A' ys.length cap') ys := ⟨A', cap', rfl, hcap', HS'.out.below hb1⟩
  refine (digits_any _ xs _ s1 HX.out (by omega)).mono ?_
  rintro e w2 ⟨vx, rfl, sx, hb2⟩
  go_wp2_with fail
  refine (digits_any _ ys _ (s1'.below hb2) HY.out (by omega)).mono ?_
  rintro e w3 ⟨vy, rfl, sy, hb3⟩
  have sx3 := sx.below hb3
  have hb13 := below_next (below_next hb1 hb2) hb3
  clear sx
  have key : ∃ (t1 t2 : Bool) (c : Int), decide (val B64 xs < val B64 ys) = t1 ∧ decide (val B64 ys < val B64 xs) = t2 ∧ cmpI (val B64 xs) (val B64 ys) = c ∧ ((t1 = true ∧ t2 = false ∧ c = -1) ∨ (t1 = false ∧ t2 = true ∧ c = 1) ∨ (t1 = false ∧ t2 = false ∧ c = 0)) := by
    rcases Nat.lt_trichotomy (val B64 xs) (val B64 ys) with hab | hab | hab
    · exact ⟨true, false, -1, decide_eq_true hab, decide_eq_false (by omega), cmpI_lt hab, .inl ⟨rfl, rfl, rfl⟩⟩
    · exact ⟨false, false, 0, decide_eq_false (by omega), decide_eq_false (by omega), by rw [hab]; exact cmpI_eq _, .inr (.inr ⟨rfl, rfl, rfl⟩)⟩
    · exact ⟨false, true, 1, decide_eq_false (by omega), decide_eq_true hab, cmpI_gt hab, .inr (.inl ⟨rfl, rfl, rfl⟩)⟩
  obtain ⟨t1, t2, c, k1, k2, k3, hk⟩ := key
  have K1 := Lib.hid k1
  have K2 := Lib.hid k2
  have K3 := Lib.hid k3
  clear k1 k2 k3
  rcases hk with ⟨rfl, rfl, rfl⟩ | ⟨rfl, rfl, rfl⟩ | ⟨rfl, rfl, rfl⟩
  all_goals
    go_wp2_with fail
    refine (less_any _ _ _ _ _ sx3 sy hdx hdy).mono ?_
    rw [K1.out]
    rintro e w4 ⟨rfl, hb4⟩
    go_wp2_with fail
    refine (less_any _ _ _ _ _ (sy.below hb4) (sx3.below hb4) hdy hdx).mono ?_
    rw [K2.out]
    rintro e w5 ⟨rfl, hb5⟩
    have hb15 := below_next (below_next hb13 hb4) hb5
    have s5 : SU w5 (.slice A xs.length cap) xs := ⟨A, cap, rfl, hcap, HS.out.below hb15⟩
    have s5' : SU w5 (.slice A' ys.length cap') ys := ⟨A', cap', rfl, hcap', HS'.out.below hb15⟩
    go_wp2_with fail
    refine (cmp_any _ _ xs ys _ s5 s5' HX.out HY.out (by omega) (by omega)).mono ?_
    rw [K3.out]
    rintro e w6 ⟨rfl, hb6⟩
    go_wp2_with fail
    refine (norm_any _ xs _ (s5.below hb6) HX.out (by omega)).mono ?_
    rintro e w7 ⟨vn, rfl, sn, hb7⟩
    have hb17 := below_next (below_next hb15 hb6) hb7
    have hs7 := HS.out.below hb17
    have HW := Lib.hid (words_any A cap xs w7 hs7 (by omega))
    have hcl := cnt_le xs
    have sc := SU.cut hs7 hcap hcl
    rw [trim_digs B64_two HX.out] at sc
    have HSC := Lib.hid sc
    have HDL := Lib.hid (digs_len_le HX.out)
    clear hs7 sc
    obtain ⟨cx, hcx⟩ : ∃ c, c = cnt xs := ⟨_, rfl⟩
    rw [← hcx] at HW hcl HSC
    clear hcx
    go_wp2_with fail
    refine HW.out.mono ?_
    rintro e w8 ⟨rfl, rfl⟩
    go_wp2_with fail
    refine (sameWords_any _ _ _ _ _ sn HSC.out (by have := HDL.out; omega) (by have := HDL.out; omega)).mono ?_
    rw [decide_eq_true (rfl : digs B64 (val B64 xs) = digs B64 (val B64 xs))]
    rintro e w8 ⟨rfl, hb8⟩
    go_wp2_with fail
    refine (of_any _ _ h0 HZ.out).mono ?_
    rintro e w9 ⟨vo, rfl, so, hb9⟩
    go_wp2_with fail
    have sn1 : SU (w9.alloc (.cells #[.int .u64 (nz : Int)] 36)) (.slice (some ⟨w9.heap.size, 0, none⟩) 1 1) [nz] := SU.new [nz]
    refine (digits_any _ [nz] _ sn1 HDZ.out (by simp)).mono ?_
    rw [val_single]
    rintro e w10 ⟨vd, rfl, sd, hb10⟩
    go_wp2_with fail
    refine (is_any _ _ (digs B64 nz) nz _ (so.below (below_next (below_new _ _) hb10)) sd (digs_dig B64_two _) (Nat.le_trans (len_small HZ.out) (by omega)) HZL.out).mono ?_
    rw [HIS.out]
    rintro e w11 ⟨rfl, hb11⟩
    go_wp2
    go_ret
    exact ⟨rfl, below_next (below_next (below_next (below_next (below_next hb17 hb8) hb9) (below_new _ _)) hb10) hb11⟩

set_option maxRecDepth 100000 in
set_option maxHeartbeats 400000 in
theorem orders_any (v u : Value) (xs ys : List Nat) (z : Int) (w : World) (h : SU w v xs) (h' : SU w u ys) (hx : Dig B64 xs) (hy : Dig B64 ys) (h0 : 0 ≤ z) (hz : z.toNat < B64) (htab : Tab w) :
    Calls Tryd.prog 7 #[v, u, .int .u64 z] w (RetV w (.bool true)) := by
  by_cases hl : 8 < xs.length
  · obtain ⟨A, cap, rfl, hcap, hs⟩ := h
    obtain ⟨A', cap', rfl, hcap', hs'⟩ := h'
    have HT := Lib.hid (alive_any w htab)
    have e1 : decide (8 < xs.length) = true := decide_eq_true hl
    clear hs hs' hx hy htab
    go_enter Tryd.func7, Tryd.ntmps7
    go_wp2_with fail
    refine HT.out.mono ?_
    rintro e w1 ⟨rfl, hb1⟩
    go_wp2_with fail
    refine (long_any _ _ _ _).mono ?_
    rw [e1]
    rintro e w2 ⟨rfl, rfl⟩
    go_wp2
    go_ret
    exact ⟨rfl, hb1⟩
  · by_cases hl' : 8 < ys.length
    · obtain ⟨A, cap, rfl, hcap, hs⟩ := h
      obtain ⟨A', cap', rfl, hcap', hs'⟩ := h'
      have HT := Lib.hid (alive_any w htab)
      have e1 : decide (8 < xs.length) = false := decide_eq_false hl
      have e2 : decide (8 < ys.length) = true := decide_eq_true hl'
      clear hs hs' hx hy htab
      go_enter Tryd.func7, Tryd.ntmps7
      go_wp2_with fail
      refine HT.out.mono ?_
      rintro e w1 ⟨rfl, hb1⟩
      go_wp2_with fail
      refine (long_any _ _ _ _).mono ?_
      rw [e1]
      rintro e w2 ⟨rfl, rfl⟩
      go_wp2_with fail
      refine (long_any _ _ _ _).mono ?_
      rw [e2]
      rintro e w2 ⟨rfl, rfl⟩
      go_wp2
      go_ret
      exact ⟨rfl, hb1⟩
    · exact orders_short v u xs ys z w h h' hx hy h0 hz htab (by omega) (by omega)

end Go.Proofs.YtmlijikandchoaaDoor
