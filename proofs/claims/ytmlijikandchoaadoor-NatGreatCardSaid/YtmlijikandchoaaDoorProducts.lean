/- Products of any numbers, and any number times 2 to a k: the walk of the statement NatProducts. -/
import Derived.Test.YtmlijikandchoaaDoorNat9
import Derived.Test.YtmlijikandchoaaDoorDivides
namespace Go.Proofs.YtmlijikandchoaaDoor
open Go.RowKit NatMath

theorem fit_mul {a b k m : Nat} (ha : (digs B64 a).length ≤ k) (hb : (digs B64 b).length ≤ m) : (digs B64 (a * b)).length ≤ k + m := by
  refine len_of_lt ?_
  rw [Nat.pow_add]
  exact Nat.mul_lt_mul'' (lt_of_len ha) (lt_of_len hb)
theorem pow_le_words {k n : Nat} (h : k ≤ 64 * n) : 2 ^ k ≤ B64 ^ n := by
  rw [B64_eq, ← Nat.pow_mul]
  exact Nat.pow_le_pow_right (by omega) h
theorem fit_pow {a k : Nat} (ha : (digs B64 a).length ≤ 8) (hk : k ≤ 300) : (digs B64 (a * 2 ^ k)).length ≤ 13 := by
  refine len_of_lt ?_
  have h1 := lt_of_len ha
  have h2 : 2 ^ k ≤ B64 ^ 5 := pow_le_words (show k ≤ 64 * 5 by omega)
  rw [show 13 = 8 + 5 from rfl, Nat.pow_add]
  exact Nat.lt_of_lt_of_le (Nat.mul_lt_mul_of_pos_right h1 (Nat.pow_pos (by omega))) (Nat.mul_le_mul_left _ h2)

/-- Shift, of any k that isn't below 0: something is told; of 0 always true. -/
theorem shift_some (v : Value) (xs : List Nat) (z : Int) (w : World) (h : SU w v xs) (hx : Dig B64 xs) (hn : xs.length ≤ 4000000) (hf : (digs B64 (val B64 xs)).length ≤ 64) (hz : 0 ≤ z) :
    Calls Tryd.prog 20 #[v, .int .i64 z] w (fun e w' => ∃ u t, e = .returned (.tuple #[u, .bool t]) ∧ Below w.heap.size w w' ∧ (val B64 xs = 0 → t = true)) := by
  by_cases h0 : val B64 xs = 0
  · refine (shift_zero v xs z w h hx hn h0 hz).mono ?_
    rintro e w' ⟨rfl, hb⟩
    exact ⟨_, _, rfl, hb, fun _ => rfl⟩
  · by_cases hk : 4096 ≤ z
    · refine (shift_big v xs z w h hx hn hf h0 hk).mono ?_
      rintro e w' ⟨rfl, hb⟩
      exact ⟨_, _, rfl, hb, fun h => absurd h h0⟩
    · obtain ⟨k, rfl⟩ := Int.eq_ofNat_of_zero_le hz
      refine (shift_any v xs k w h hx hn hf (by omega)).mono ?_
      rintro e w' ⟨u, t, rfl, hb, _⟩
      exact ⟨u, t, rfl, hb, fun h => absurd h h0⟩

def PowRel (w : World) (a k : Nat) (d i : Value) (wr : World) : Prop :=
  ∃ j : Nat, j ≤ k ∧ i = .int .i64 (j : Int) ∧ SI wr d (digs 10 (a * 2 ^ j)) ∧ Below w.heap.size w wr

set_option maxRecDepth 100000 in
set_option maxHeartbeats 800000 in
theorem products_neg (v : Value) (u : Value) (xs : List Nat) (ys : List Nat) (z : Int) (w : World) (h : SU w v xs) (h' : SU w u ys) (hx : Dig B64 xs) (hy : Dig B64 ys) (htab : Tab w) (hl0 : xs.length ≤ 8) (hl1 : ys.length ≤ 8) (hz : z < 0) :
    Calls Tryd.prog 4 #[v, u, .int .i64 z] w (RetV w (.bool true)) := by
  obtain ⟨A0, cap0, rfl, hcap0, hs0⟩ := h
  obtain ⟨A1, cap1, rfl, hcap1, hs1⟩ := h'
  have e0 : decide (8 < xs.length) = false := decide_eq_false (by omega)
  have HD0 := Lib.hid (digs10_short hx hl0)
  have HX0 := Lib.hid hx
  have HS0 := Lib.hid hs0
  have e1 : decide (8 < ys.length) = false := decide_eq_false (by omega)
  have HD1 := Lib.hid (digs10_short hy hl1)
  have HX1 := Lib.hid hy
  have HS1 := Lib.hid hs1
  have HT := Lib.hid (alive_any w htab)
  have HTAB := Lib.hid htab
  clear hs0 hs1 hx hy htab
  have hfa := fit8 HX0.out hl0
  have hfb := fit8 HX1.out hl1
  have hfm := fit_mul hfa hfb
  have HDS := Lib.hid (dec_fit hfm (by omega))
  have hdx := digs10_small hfa
  have hdy := digs10_small hfb
  go_enter Tryd.func4, Tryd.ntmps4
  go_wp2_with fail
  refine HT.out.mono ?_
  rintro e w1 ⟨rfl, hb1⟩
  go_wp2_with fail
  refine (long_any _ _ _ _).mono ?_
  rw [e0]
  rintro e w2 ⟨rfl, rfl⟩
  go_wp2_with fail
  refine (long_any _ _ _ _).mono ?_
  rw [e1]
  rintro e w2 ⟨rfl, rfl⟩
  have s1 : SU w1 (.slice A0 xs.length cap0) xs := ⟨A0, cap0, rfl, hcap0, HS0.out.below hb1⟩
  have s1' : SU w1 (.slice A1 ys.length cap1) ys := ⟨A1, cap1, rfl, hcap1, HS1.out.below hb1⟩
  go_wp2_with fail
  refine (digits_any _ xs _ s1 HX0.out (by omega)).mono ?_
  rintro e w2 ⟨vx, rfl, sx, hb2⟩
  go_wp2_with fail
  refine (digits_any _ ys _ (s1'.below hb2) HX1.out (by omega)).mono ?_
  rintro e w3 ⟨vy, rfl, sy, hb3⟩
  have hb23 := below_next hb2 hb3
  go_wp2_with fail
  refine (mul_any _ _ xs ys _ (s1.below hb23) (s1'.below hb23) HX0.out HX1.out (by omega) (by omega) (by omega) (by omega)).mono ?_
  rintro e w4 ⟨vm, t, rfl, hb4, hres⟩
  have hres2 : t = true ∧ SU w4 vm (digs B64 (val B64 xs * val B64 ys)) := by
    rcases hres with ⟨_, h1, h2⟩ | ⟨h1, _⟩
    · exact ⟨h1, h2⟩
    · omega
  obtain ⟨rfl, ss⟩ := hres2
  clear hres
  have hb24 := below_next hb23 hb4
  have s4 := s1.below hb24
  have sx4 := sx.below (below_next hb3 hb4)
  have sy4 := sy.below hb4
  go_wp2_with fail
  refine (shift_neg _ xs z _ s4 HX0.out (by omega) (by omega) hz).mono ?_
  rintro e w5 ⟨rfl, hb5⟩
  go_wp2_with fail
  refine (mulD_any _ _ _ _ _ (sx4.below hb5) (sy4.below hb5) (by omega) (by omega)).mono ?_
  rintro e w6 ⟨va, rfl, sa, hb6⟩
  go_wp2_with fail
  refine (told_yes _ _ _ _ (ss.below (below_next hb5 hb6)) sa (by omega) (by have := HDS.out; omega)).mono ?_
  rintro e w7 ⟨rfl, hb7⟩
  have hb57 := below_next (below_next hb5 hb6) hb7
  go_wp2
  go_ret
  exact ⟨rfl, below_next (below_next hb1 hb24) hb57⟩

set_option maxRecDepth 100000 in
set_option maxHeartbeats 800000 in
theorem products_far (v : Value) (u : Value) (xs : List Nat) (ys : List Nat) (z : Int) (w : World) (h : SU w v xs) (h' : SU w u ys) (hx : Dig B64 xs) (hy : Dig B64 ys) (htab : Tab w) (hl0 : xs.length ≤ 8) (hl1 : ys.length ≤ 8) (hz : 300 < z) :
    Calls Tryd.prog 4 #[v, u, .int .i64 z] w (RetV w (.bool true)) := by
  obtain ⟨A0, cap0, rfl, hcap0, hs0⟩ := h
  obtain ⟨A1, cap1, rfl, hcap1, hs1⟩ := h'
  have e0 : decide (8 < xs.length) = false := decide_eq_false (by omega)
  have HD0 := Lib.hid (digs10_short hx hl0)
  have HX0 := Lib.hid hx
  have HS0 := Lib.hid hs0
  have e1 : decide (8 < ys.length) = false := decide_eq_false (by omega)
  have HD1 := Lib.hid (digs10_short hy hl1)
  have HX1 := Lib.hid hy
  have HS1 := Lib.hid hs1
  have HT := Lib.hid (alive_any w htab)
  have HTAB := Lib.hid htab
  clear hs0 hs1 hx hy htab
  have hfa := fit8 HX0.out hl0
  have hfb := fit8 HX1.out hl1
  have hfm := fit_mul hfa hfb
  have HDS := Lib.hid (dec_fit hfm (by omega))
  have hdx := digs10_small hfa
  have hdy := digs10_small hfb
  obtain ⟨ld, hld⟩ : ∃ l, l = (digs 10 (val B64 xs)).length := ⟨_, rfl⟩
  have hd0 : val B64 xs = 0 ∨ (0 < ld ∧ val B64 xs ≠ 0) := by
    by_cases h0 : val B64 xs = 0
    · exact .inl h0
    · right
      refine ⟨?_, h0⟩
      rcases Nat.eq_zero_or_pos ld with h | h
      · have h1 := digs_val (b := 10) (by omega) (val B64 xs)
        rw [List.eq_nil_of_length_eq_zero (hld.symm.trans h)] at h1
        exact absurd h1.symm h0
      · exact h
  have HD0 := Lib.hid hd0
  have HLD := Lib.hid hld
  clear hd0 hld
  go_enter Tryd.func4, Tryd.ntmps4
  go_wp2_with fail
  refine HT.out.mono ?_
  rintro e w1 ⟨rfl, hb1⟩
  go_wp2_with fail
  refine (long_any _ _ _ _).mono ?_
  rw [e0]
  rintro e w2 ⟨rfl, rfl⟩
  go_wp2_with fail
  refine (long_any _ _ _ _).mono ?_
  rw [e1]
  rintro e w2 ⟨rfl, rfl⟩
  have s1 : SU w1 (.slice A0 xs.length cap0) xs := ⟨A0, cap0, rfl, hcap0, HS0.out.below hb1⟩
  have s1' : SU w1 (.slice A1 ys.length cap1) ys := ⟨A1, cap1, rfl, hcap1, HS1.out.below hb1⟩
  go_wp2_with fail
  refine (digits_any _ xs _ s1 HX0.out (by omega)).mono ?_
  rintro e w2 ⟨vx, rfl, sx, hb2⟩
  go_wp2_with fail
  refine (digits_any _ ys _ (s1'.below hb2) HX1.out (by omega)).mono ?_
  rintro e w3 ⟨vy, rfl, sy, hb3⟩
  have hb23 := below_next hb2 hb3
  go_wp2_with fail
  refine (mul_any _ _ xs ys _ (s1.below hb23) (s1'.below hb23) HX0.out HX1.out (by omega) (by omega) (by omega) (by omega)).mono ?_
  rintro e w4 ⟨vm, t, rfl, hb4, hres⟩
  have hres2 : t = true ∧ SU w4 vm (digs B64 (val B64 xs * val B64 ys)) := by
    rcases hres with ⟨_, h1, h2⟩ | ⟨h1, _⟩
    · exact ⟨h1, h2⟩
    · omega
  obtain ⟨rfl, ss⟩ := hres2
  clear hres
  have hb24 := below_next hb23 hb4
  have s4 := s1.below hb24
  have sx4 := sx.below (below_next hb3 hb4)
  have sy4 := sy.below hb4
  go_wp2_with fail
  refine (shift_some _ xs z _ s4 HX0.out (by omega) (by omega) (by omega)).mono ?_
  rintro e w5 ⟨us5, t5, rfl, hb5, ht5⟩
  have HT5 := Lib.hid ht5
  clear ht5
  go_wp2_with fail
  refine (mulD_any _ _ _ _ _ (sx4.below hb5) (sy4.below hb5) (by omega) (by omega)).mono ?_
  rintro e w6 ⟨va, rfl, sa, hb6⟩
  go_wp2_with fail
  refine (told_yes _ _ _ _ (ss.below (below_next hb5 hb6)) sa (by omega) (by have := HDS.out; omega)).mono ?_
  rintro e w7 ⟨rfl, hb7⟩
  have hb57 := below_next (below_next hb5 hb6) hb7
  obtain ⟨Ax, cx, hvx, hcx, hsx⟩ := sx4
  rw [← HLD.out] at hvx
  subst hvx
  rcases HD0.out with h0 | ⟨h0, _⟩
  · have ht := HT5.out h0
    subst ht
    have hl0 : ld = 0 := by rw [HLD.out, h0]; rfl
    subst hl0
    clear h0
    go_wp2
    go_ret
    exact ⟨rfl, below_next (below_next hb1 hb24) hb57⟩
  · have hne : ((ld : Int) == 0) = false := by rw [beq_eq_false_iff_ne]; omega
    cases t5
    · go_wp2
      go_ret
      exact ⟨rfl, below_next (below_next hb1 hb24) hb57⟩
    · go_wp2
      go_ret
      exact ⟨rfl, below_next (below_next hb1 hb24) hb57⟩

set_option maxRecDepth 100000 in
set_option maxHeartbeats 800000 in
theorem products_near (v : Value) (u : Value) (xs : List Nat) (ys : List Nat) (k : Nat) (w : World) (h : SU w v xs) (h' : SU w u ys) (hx : Dig B64 xs) (hy : Dig B64 ys) (htab : Tab w) (hl0 : xs.length ≤ 8) (hl1 : ys.length ≤ 8) (hk : k ≤ 300) :
    Calls Tryd.prog 4 #[v, u, .int .i64 (k : Int)] w (RetV w (.bool true)) := by
  obtain ⟨A0, cap0, rfl, hcap0, hs0⟩ := h
  obtain ⟨A1, cap1, rfl, hcap1, hs1⟩ := h'
  have e0 : decide (8 < xs.length) = false := decide_eq_false (by omega)
  have HD0 := Lib.hid (digs10_short hx hl0)
  have HX0 := Lib.hid hx
  have HS0 := Lib.hid hs0
  have e1 : decide (8 < ys.length) = false := decide_eq_false (by omega)
  have HD1 := Lib.hid (digs10_short hy hl1)
  have HX1 := Lib.hid hy
  have HS1 := Lib.hid hs1
  have HT := Lib.hid (alive_any w htab)
  have HTAB := Lib.hid htab
  clear hs0 hs1 hx hy htab
  have hfa := fit8 HX0.out hl0
  have hfb := fit8 HX1.out hl1
  have hfm := fit_mul hfa hfb
  have HDS := Lib.hid (dec_fit hfm (by omega))
  have hdx := digs10_small hfa
  have hdy := digs10_small hfb
  have hfp := fit_pow hfa hk
  go_enter Tryd.func4, Tryd.ntmps4
  go_wp2_with fail
  refine HT.out.mono ?_
  rintro e w1 ⟨rfl, hb1⟩
  go_wp2_with fail
  refine (long_any _ _ _ _).mono ?_
  rw [e0]
  rintro e w2 ⟨rfl, rfl⟩
  go_wp2_with fail
  refine (long_any _ _ _ _).mono ?_
  rw [e1]
  rintro e w2 ⟨rfl, rfl⟩
  have s1 : SU w1 (.slice A0 xs.length cap0) xs := ⟨A0, cap0, rfl, hcap0, HS0.out.below hb1⟩
  have s1' : SU w1 (.slice A1 ys.length cap1) ys := ⟨A1, cap1, rfl, hcap1, HS1.out.below hb1⟩
  go_wp2_with fail
  refine (digits_any _ xs _ s1 HX0.out (by omega)).mono ?_
  rintro e w2 ⟨vx, rfl, sx, hb2⟩
  go_wp2_with fail
  refine (digits_any _ ys _ (s1'.below hb2) HX1.out (by omega)).mono ?_
  rintro e w3 ⟨vy, rfl, sy, hb3⟩
  have hb23 := below_next hb2 hb3
  go_wp2_with fail
  refine (mul_any _ _ xs ys _ (s1.below hb23) (s1'.below hb23) HX0.out HX1.out (by omega) (by omega) (by omega) (by omega)).mono ?_
  rintro e w4 ⟨vm, t, rfl, hb4, hres⟩
  have hres2 : t = true ∧ SU w4 vm (digs B64 (val B64 xs * val B64 ys)) := by
    rcases hres with ⟨_, h1, h2⟩ | ⟨h1, _⟩
    · exact ⟨h1, h2⟩
    · omega
  obtain ⟨rfl, ss⟩ := hres2
  clear hres
  have hb24 := below_next hb23 hb4
  have s4 := s1.below hb24
  have sx4 := sx.below (below_next hb3 hb4)
  have sy4 := sy.below hb4
  go_wp2_with fail
  refine (shift_any _ xs k _ s4 HX0.out (by omega) (by omega) (by omega)).mono ?_
  rintro e w5 ⟨vk, t, rfl, hb5, hres⟩
  have hres2 : t = true ∧ SU w5 vk (digs B64 (val B64 xs * 2 ^ k)) := by
    rcases hres with ⟨_, h1, h2⟩ | ⟨h1, _⟩
    · exact ⟨h1, h2⟩
    · omega
  obtain ⟨rfl, sk⟩ := hres2
  clear hres
  go_wp2_with fail
  refine (mulD_any _ _ _ _ _ (sx4.below hb5) (sy4.below hb5) (by omega) (by omega)).mono ?_
  rintro e w6 ⟨va, rfl, sa, hb6⟩
  go_wp2_with fail
  refine (told_yes _ _ _ _ (ss.below (below_next hb5 hb6)) sa (by omega) (by have := HDS.out; omega)).mono ?_
  rintro e w7 ⟨rfl, hb7⟩
  have hb57 := below_next (below_next hb5 hb6) hb7
  have sx7 := sx4.below hb57
  have sk7 := sk.below (below_next hb6 hb7)
  have hb17 := below_next (below_next hb1 hb24) hb57
  have HST : Hid (PowRel w7 (val B64 xs) k vx (.int .i64 0) w7) := ⟨0, Nat.zero_le _, rfl, by rw [Nat.pow_zero, Nat.mul_one]; exact sx7, Below.refl _ _⟩
  clear sx7
  go_wp2
  go_loopw [13, 14] (fun d i wr => PowRel w7 (val B64 xs) k d i wr) (fun _ i _ => k - (intOf i).toNat)
  case atStart => exact HST.out
  case round =>
    obtain ⟨j, hj, rfl, sd, hbr⟩ := hrel
    clear HST
    by_cases hlt : j < k
    · have HL := Lib.hid (show (digs 10 (val B64 xs * 2 ^ j)).length ≤ 1000000 from dec_fit (fit_pow hfa (by omega)) (by omega))
      have HDB : Hid (Calls Tryd.prog 22 #[u13, .int .i64 0] wr (RetI wr (digs 10 (val B64 xs * 2 ^ (j + 1))))) := by
        have h1 := double_int u13 _ 0 wr sd (by omega) (by omega) HL.out
        rw [show 2 * (val B64 xs * 2 ^ j) + Int.toNat 0 = val B64 xs * 2 ^ (j + 1) by rw [Nat.pow_succ, Nat.mul_comm (2 ^ j) 2, Nat.mul_left_comm]; rfl] at h1
        exact h1
      go_wp2_with fail
      refine HDB.out.mono ?_
      rintro e w9 ⟨v9, rfl, s9, hb9⟩
      go_wp2
      go_roundw
      case rel => exact ⟨j + 1, by omega, by go_num, s9, below_next hbr hb9⟩
      case measure => simp [intOf]; omega
    · have hjk : j = k := by omega
      subst hjk
      have HTL := Lib.hid (told_yes vk u13 _ _ (sk7.below hbr) sd (by omega) (by have := dec_fit hfp (by omega); omega))
      go_wp2_with fail
      refine HTL.out.mono ?_
      rintro e w9 ⟨rfl, hb9⟩
      go_wp2
      go_ret
      exact ⟨rfl, below_next (below_next hb17 hbr) hb9⟩

theorem products_short (v u : Value) (xs ys : List Nat) (z : Int) (w : World) (h : SU w v xs) (h' : SU w u ys) (hx : Dig B64 xs) (hy : Dig B64 ys) (htab : Tab w) (hl0 : xs.length ≤ 8) (hl1 : ys.length ≤ 8) :
    Calls Tryd.prog 4 #[v, u, .int .i64 z] w (RetV w (.bool true)) := by
  by_cases h1 : z < 0
  · exact products_neg v u xs ys z w h h' hx hy htab hl0 hl1 h1
  · by_cases h2 : 300 < z
    · exact products_far v u xs ys z w h h' hx hy htab hl0 hl1 h2
    · obtain ⟨k, rfl⟩ := Int.eq_ofNat_of_zero_le (show 0 ≤ z by omega)
      exact products_near v u xs ys k w h h' hx hy htab hl0 hl1 (by omega)

set_option maxRecDepth 100000 in
set_option maxHeartbeats 400000 in
theorem products_any (v : Value) (u : Value) (xs : List Nat) (ys : List Nat) (z : Int) (w : World) (h : SU w v xs) (h' : SU w u ys) (hx : Dig B64 xs) (hy : Dig B64 ys) (htab : Tab w) :
    Calls Tryd.prog 4 #[v, u, .int .i64 z] w (RetV w (.bool true)) := by
  by_cases hl0 : 8 < xs.length
  · obtain ⟨A0, cap0, rfl, hcap0, hs0⟩ := h
    obtain ⟨A1, cap1, rfl, hcap1, hs1⟩ := h'
    have HT := Lib.hid (alive_any w htab)
    have e0 : decide (8 < xs.length) = true := decide_eq_true hl0
    clear hs0 hs1 hx hy htab
    go_enter Tryd.func4, Tryd.ntmps4
    go_wp2_with fail
    refine HT.out.mono ?_
    rintro e w1 ⟨rfl, hb1⟩
    go_wp2_with fail
    refine (long_any _ _ _ _).mono ?_
    rw [e0]
    rintro e w2 ⟨rfl, rfl⟩
    go_wp2
    go_ret
    exact ⟨rfl, hb1⟩
  · by_cases hl1 : 8 < ys.length
    · obtain ⟨A0, cap0, rfl, hcap0, hs0⟩ := h
      obtain ⟨A1, cap1, rfl, hcap1, hs1⟩ := h'
      have HT := Lib.hid (alive_any w htab)
      have e0 : decide (8 < xs.length) = false := decide_eq_false hl0
      have e1 : decide (8 < ys.length) = true := decide_eq_true hl1
      clear hs0 hs1 hx hy htab
      go_enter Tryd.func4, Tryd.ntmps4
      go_wp2_with fail
      refine HT.out.mono ?_
      rintro e w1 ⟨rfl, hb1⟩
      go_wp2_with fail
      refine (long_any _ _ _ _).mono ?_
      rw [e0]
      rintro e w2 ⟨rfl, rfl⟩
      go_wp2_with fail
      refine (long_any _ _ _ _).mono ?_
      rw [e1]
      rintro e w2 ⟨rfl, rfl⟩
      go_wp2
      go_ret
      exact ⟨rfl, hb1⟩
    · exact products_short v u xs ys z w h h' hx hy htab (by omega) (by omega)

end Go.Proofs.YtmlijikandchoaaDoor
