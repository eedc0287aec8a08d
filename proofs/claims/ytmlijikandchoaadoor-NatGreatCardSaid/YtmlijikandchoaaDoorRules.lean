/- Rules of reckoning without digits: the walk of the statement NatRules. -/
import Derived.Test.YtmlijikandchoaaDoorTexts
import Derived.Test.YtmlijikandchoaaDoorProducts
namespace Go.Proofs.YtmlijikandchoaaDoor
open Go.RowKit NatMath

/-- An answer that fits. -/
def RetF (w : World) (n : Nat) (e : Ending) (w' : World) : Prop := ∃ v, e = .returned (.tuple #[v, .bool true]) ∧ SU w' v (digs B64 n) ∧ Below w.heap.size w w'
theorem retF {w : World} {n : Nat} (hf : (digs B64 n).length ≤ 64) {e : Ending} {w' : World} (h : RetN w n e w') : RetF w n e w' := by
  obtain ⟨v, t, rfl, hb, h | h⟩ := h
  · obtain ⟨_, rfl, hs⟩ := h
    exact ⟨v, rfl, hs, hb⟩
  · omega
theorem pv_dec : ∀ n, pv (Lib.decDigits n) = n := by
  intro n
  induction n using Nat.strongRecOn with
  | ind n ih =>
    by_cases hs : n < 10
    · rw [dec_small hs]
      show 10 * 0 + ((UInt8.ofNat (48 + n)).toNat - 48) = n
      simp
      omega
    · rw [dec_big hs, pv_snoc, ih (n / 10) (by omega)]
      simp
      omega
theorem dec_all : ∀ n, (Lib.decDigits n).all isDig = true := by
  intro n
  induction n using Nat.strongRecOn with
  | ind n ih =>
    have hd : ∀ d, d < 10 → isDig (UInt8.ofNat (48 + d)) = true := by
      intro d hd
      unfold isDig
      simp
      omega
    by_cases hs : n < 10
    · rw [dec_small hs, List.all_cons, hd n hs]
      rfl
    · rw [dec_big hs, List.all_append, ih (n / 10) (by omega), List.all_cons, hd (n % 10) (by omega)]
      rfl
theorem dec_head : ∀ n, n ≠ 0 → (Lib.decDigits n).head? ≠ some 48 := by
  intro n
  induction n using Nat.strongRecOn with
  | ind n ih =>
    intro h0
    by_cases hs : n < 10
    · rw [dec_small hs]
      simp only [List.head?_cons, ne_eq, Option.some.injEq]
      intro h
      have h1 := congrArg UInt8.toNat h
      simp at h1
      omega
    · rw [dec_big hs, List.head?_append]
      have h1 := ih (n / 10) (by omega) (by omega)
      cases hh : (Lib.decDigits (n / 10)).head? with
      | none =>
        rw [List.head?_eq_none_iff] at hh
        have := Lib.decDigits_length (n / 10)
        rw [hh] at this
        have := Lib.nDigits_pos (n / 10)
        simp at *
        omega
      | some c =>
        rw [hh] at h1
        simpa using h1
theorem dec_wrt (n : Nat) : wrt (Lib.decDigits n) = true := by
  have hl := Lib.decDigits_length n
  have hp := Lib.nDigits_pos n
  have hne : (Lib.decDigits n).isEmpty = false := by
    rw [List.isEmpty_eq_false_iff]
    intro h
    rw [h] at hl
    simp at hl
    omega
  unfold wrt
  rw [dec_all, hne]
  by_cases h0 : n = 0
  · subst h0
    rw [hl, Lib.nDigits_small (by omega)]
    rfl
  · rw [decide_eq_true (dec_head n h0)]
    simp
/-- Parse of what Text tells. -/
theorem parse_dec (n : Nat) (w : World) (hl : (Lib.decDigits n).length ≤ 4000000) : Calls Tryd.prog 27 #[.string ⟨(Lib.decDigits n).toArray⟩] w (RetN w n) := by
  have h := parse_any ⟨(Lib.decDigits n).toArray⟩ w (by show (Lib.decDigits n).toArray.size ≤ _; simpa using hl) (dec_wrt n)
  rw [show (⟨(Lib.decDigits n).toArray⟩ : ByteArray).data.toList = Lib.decDigits n from rfl, pv_dec] at h
  exact h
theorem dec_len {n k : Nat} (hf : (digs B64 n).length ≤ k) (hk : k ≤ 1000) : (Lib.decDigits n).length ≤ 1000000 := by
  by_cases h0 : n = 0
  · subst h0; rw [dec_small (by omega)]; simp
  · rw [dec_digs n h0, List.length_map, List.length_reverse]
    exact dec_fit hf hk

set_option maxRecDepth 100000 in
set_option maxHeartbeats 3200000 in
theorem rules_short (v : Value) (u : Value) (t : Value) (xs : List Nat) (ys : List Nat) (zs : List Nat) (m : Nat) (w : World) (h : SU w v xs) (h' : SU w u ys) (h2 : SU w t zs) (hx : Dig B64 xs) (hy : Dig B64 ys) (hz : Dig B64 zs) (htab : Tab w) (hl0 : xs.length ≤ 8) (hl1 : ys.length ≤ 8) (hl2 : zs.length ≤ 8) (hmB : m < 18446744073709551616) :
    Calls Tryd.prog 9 #[v, u, t, .int .u64 (m : Int)] w (RetV w (.bool true)) := by
  obtain ⟨A0, cap0, rfl, hcap0, hs0⟩ := h
  obtain ⟨A1, cap1, rfl, hcap1, hs1⟩ := h'
  obtain ⟨A2, cap2, rfl, hcap2, hs2⟩ := h2
  have e0 : decide (8 < xs.length) = false := decide_eq_false (by omega)
  have HD0 := Lib.hid (digs10_short hx hl0)
  have HX0 := Lib.hid hx
  have HS0 := Lib.hid hs0
  have e1 : decide (8 < ys.length) = false := decide_eq_false (by omega)
  have HD1 := Lib.hid (digs10_short hy hl1)
  have HX1 := Lib.hid hy
  have HS1 := Lib.hid hs1
  have e2 : decide (8 < zs.length) = false := decide_eq_false (by omega)
  have HD2 := Lib.hid (digs10_short hz hl2)
  have HX2 := Lib.hid hz
  have HS2 := Lib.hid hs2
  have HT := Lib.hid (alive_any w htab)
  have HTAB := Lib.hid htab
  clear hs0 hs1 hs2 hx hy hz htab
  have hfa := fit8 HX0.out hl0
  have hfb := fit8 HX1.out hl1
  have hfc := fit8 HX2.out hl2
  have HMB := Lib.hid (show m < B64 from hmB)
  have HA := Lib.hid (show val B64 (digs B64 (val B64 xs)) = val B64 xs from digs_val B64_two _)
  obtain ⟨a, ha⟩ : ∃ a, a = val B64 xs := ⟨_, rfl⟩
  obtain ⟨b, hb⟩ : ∃ a, a = val B64 ys := ⟨_, rfl⟩
  obtain ⟨c, hc⟩ : ∃ a, a = val B64 zs := ⟨_, rfl⟩
  rw [← ha] at hfa
  rw [← hb] at hfb
  rw [← hc] at hfc
  have HVA := Lib.hid ha
  have HVB := Lib.hid hb
  have HVC := Lib.hid hc
  clear ha hb hc
  have hfab := fit_add hfa hfb
  have hfp := fit_mul hfab hfc
  have hfac := fit_mul hfa hfc
  have hfcb := fit_mul hfc hfb
  have hdl := dec_len hfp (by omega)
  have HQ := Lib.hid (show a * c + c * b = (a + b) * c by rw [Nat.add_mul, Nat.mul_comm c b])
  have HBA := Lib.hid (show b + a = a + b by omega)
  go_enter Tryd.func9, Tryd.ntmps9
  go_wp2_with fail
  refine HT.out.mono ?_
  rintro e w1 ⟨rfl, hb1⟩
  go_wp2_with fail
  refine (long_any _ _ _ _).mono ?_
  rw [e0]
  rintro e w2 ⟨rfl, rfl⟩
  go_wp2_with fail
  refine (long_any _ _ _ _).mono ?_
  rw [e1]
  rintro e w2 ⟨rfl, rfl⟩
  go_wp2_with fail
  refine (long_any _ _ _ _).mono ?_
  rw [e2]
  rintro e w2 ⟨rfl, rfl⟩
  have s0 : SU w1 (.slice A0 xs.length cap0) xs := ⟨A0, cap0, rfl, hcap0, HS0.out.below hb1⟩
  have s1 : SU w1 (.slice A1 ys.length cap1) ys := ⟨A1, cap1, rfl, hcap1, HS1.out.below hb1⟩
  have s2 : SU w1 (.slice A2 zs.length cap2) zs := ⟨A2, cap2, rfl, hcap2, HS2.out.below hb1⟩
  have HADD : Hid (∀ (W : World) (p q : Value) (P Q : List Nat) (i j : Nat), SU W p P → SU W q Q → Dig B64 P → Dig B64 Q → P.length ≤ 100 → Q.length ≤ 100 → val B64 P = i → val B64 Q = j → (digs B64 i).length ≤ 40 → (digs B64 j).length ≤ 40 → Calls Tryd.prog 13 #[p, q] W (RetF W (i + j))) := by
    intro W p q P Q i j h1 h2 h3 h4 h5 h6 h7 h8 h9 h10
    subst h7 h8
    exact (add_any p q P Q W h1 h2 h3 h4 (by omega) (by omega) (by omega) (by omega)).mono fun e w' h => retF (by have := fit_add h9 h10; omega) h
  have HMUL : Hid (∀ (W : World) (p q : Value) (P Q : List Nat) (i j : Nat), SU W p P → SU W q Q → Dig B64 P → Dig B64 Q → P.length ≤ 100 → Q.length ≤ 100 → val B64 P = i → val B64 Q = j → (digs B64 i).length ≤ 30 → (digs B64 j).length ≤ 30 → Calls Tryd.prog 19 #[p, q] W (RetF W (i * j))) := by
    intro W p q P Q i j h1 h2 h3 h4 h5 h6 h7 h8 h9 h10
    subst h7 h8
    exact (mul_any p q P Q W h1 h2 h3 h4 (by omega) (by omega) (by omega) (by omega)).mono fun e w' h => retF (by have := fit_mul h9 h10; omega) h
  have HCMP : Hid (∀ (W : World) (p q : Value) (P Q : List Nat), SU W p P → SU W q Q → Dig B64 P → Dig B64 Q → P.length ≤ 100 → Q.length ≤ 100 → val B64 P = val B64 Q → Calls Tryd.prog 31 #[p, q] W (RetV W (.int .i64 0))) := by
    intro W p q P Q h1 h2 h3 h4 h5 h6 h7
    have := cmp_any p q P Q W h1 h2 h3 h4 (by omega) (by omega)
    rw [h7, cmpI_eq] at this
    exact this
  have DG : ∀ n, Dig B64 (digs B64 n) := fun n => digs_dig B64_two n
  have VD : ∀ n, val B64 (digs B64 n) = n := fun n => digs_val B64_two n
  have HDG := Lib.hid DG
  have HVD := Lib.hid VD
  clear DG VD
  go_wp2_with fail
  refine (HADD.out _ _ _ xs ys a b s0 s1 HX0.out HX1.out (by omega) (by omega) HVA.out.symm HVB.out.symm (by omega) (by omega)).mono ?_
  rintro e w2 ⟨vab, rfl, sab, hb2⟩
  go_wp2_with fail
  refine (HADD.out _ _ _ ys xs b a (s1.below hb2) (s0.below hb2) HX1.out HX0.out (by omega) (by omega) HVB.out.symm HVA.out.symm (by omega) (by omega)).mono ?_
  rw [HBA.out]
  rintro e w3 ⟨vba, rfl, sba, hb3⟩
  have k3 := below_next hb2 hb3
  have HSUB : Hid (Calls Tryd.prog 14 #[vab, .slice A1 ys.length cap1] w3 (RetF w3 a)) := by
    have h1 := sub_any vab (.slice A1 ys.length cap1) (digs B64 (a + b)) ys w3 (sab.below hb3) (s1.below k3) (HDG.out _) HX1.out (by omega) (by omega) (by rw [HVD.out]; omega) (by rw [← HVB.out]; omega) (by rw [HVD.out, ← HVB.out]; omega)
    rw [HVD.out, ← HVB.out, Nat.add_sub_cancel] at h1
    exact h1.mono fun e w' h => retF (by omega) h
  go_wp2_with fail
  refine HSUB.out.mono ?_
  rintro e w4 ⟨vbk, rfl, sbk, hb4⟩
  have k4 := below_next k3 hb4
  have sab4 := sab.below (below_next hb3 hb4)
  go_wp2_with fail
  refine (HMUL.out _ _ _ (digs B64 (a + b)) zs (a + b) c sab4 (s2.below k4) (HDG.out _) HX2.out (by omega) (by omega) (HVD.out _) HVC.out.symm (by omega) (by omega)).mono ?_
  rintro e w5 ⟨vp, rfl, sp, hb5⟩
  have k5 := below_next k4 hb5
  go_wp2_with fail
  refine (HMUL.out _ _ _ xs zs a c (s0.below k5) (s2.below k5) HX0.out HX2.out (by omega) (by omega) HVA.out.symm HVC.out.symm (by omega) (by omega)).mono ?_
  rintro e w6 ⟨vac, rfl, sac, hb6⟩
  have k6 := below_next k5 hb6
  go_wp2_with fail
  refine (HMUL.out _ _ _ zs ys c b (s2.below k6) (s1.below k6) HX2.out HX1.out (by omega) (by omega) HVC.out.symm HVB.out.symm (by omega) (by omega)).mono ?_
  rintro e w7 ⟨vbc, rfl, sbc, hb7⟩
  have k7 := below_next k6 hb7
  go_wp2_with fail
  refine (HADD.out _ _ _ (digs B64 (a * c)) (digs B64 (c * b)) (a * c) (c * b) (sac.below hb7) sbc (HDG.out _) (HDG.out _) (by omega) (by omega) (HVD.out _) (HVD.out _) (by omega) (by omega)).mono ?_
  rw [HQ.out]
  rintro e w8 ⟨vq, rfl, sq, hb8⟩
  have k8 := below_next k7 hb8
  have sab8 := sab4.below (below_next (below_next (below_next hb5 hb6) hb7) hb8)
  have sba8 := sba.below (below_next (below_next (below_next (below_next hb4 hb5) hb6) hb7) hb8)
  have sbk8 := sbk.below (below_next (below_next (below_next hb5 hb6) hb7) hb8)
  have sp8 := sp.below (below_next (below_next hb6 hb7) hb8)
  clear sab sab4 sba sbk sp sac sbc
  go_wp2_with fail
  refine (HCMP.out _ _ _ _ _ sab8 sba8 (HDG.out _) (HDG.out _) (by omega) (by omega) rfl).mono ?_
  rintro e w9 ⟨rfl, hb9⟩
  go_wp2_with fail
  refine (HCMP.out _ _ _ (digs B64 a) xs (sbk8.below hb9) (s0.below (below_next k8 hb9)) (HDG.out _) HX0.out (by omega) (by omega) (by rw [HVD.out]; exact HVA.out)).mono ?_
  rintro e w10 ⟨rfl, hb10⟩
  have k810 := below_next hb9 hb10
  go_wp2_with fail
  refine (HCMP.out _ _ _ _ _ (sp8.below k810) (sq.below k810) (HDG.out _) (HDG.out _) (by omega) (by omega) rfl).mono ?_
  rintro e w11 ⟨rfl, hb11⟩
  have k811 := below_next k810 hb11
  have sp11 := sp8.below k811
  have k11 := below_next k8 k811
  have k1 := below_next hb1 k11
  have HTX : Hid (Calls Tryd.prog 26 #[vp] w11 (fun e w' => e = .returned (.tuple #[.string ⟨(Lib.decDigits ((a + b) * c)).toArray⟩, .bool true]) ∧ Below w11.heap.size w11 w')) := by
    have h1 := text_any vp (digs B64 ((a + b) * c)) w11 sp11 (HDG.out _) (by omega) (by rw [HVD.out]; omega) (HTAB.out.below k1)
    rw [HVD.out] at h1
    exact h1
  go_wp2_with fail
  refine HTX.out.mono ?_
  rintro e w12 ⟨rfl, hb12⟩
  go_wp2_with fail
  refine ((parse_dec _ w12 (by omega)).mono fun e w' h => retF (by omega) h).mono ?_
  rintro e w13 ⟨vr, rfl, sr, hb13⟩
  have k1113 := below_next hb12 hb13
  go_wp2_with fail
  refine (sameWords_any _ _ _ _ _ sr (sp11.below k1113) (by omega) (by omega)).mono ?_
  rw [decide_eq_true (rfl : digs B64 ((a + b) * c) = digs B64 ((a + b) * c))]
  rintro e w14 ⟨rfl, hb14⟩
  have k14 := below_next (below_next k11 k1113) hb14
  by_cases hm0 : m = 0
  · subst hm0
    go_wp2
    go_ret
    exact ⟨rfl, below_next hb1 k14⟩
  · have hmp : 0 < m := by omega
    have hme : ((m : Int) == 0) = false := by rw [beq_eq_false_iff_ne]; omega
    obtain ⟨r, hr⟩ : ∃ r, r = a % m := ⟨_, rfl⟩
    obtain ⟨Q, hQ⟩ : ∃ r, r = a / m := ⟨_, rfl⟩
    have hrm : r < m := by rw [hr]; exact Nat.mod_lt _ hmp
    have hQx : Q * m + r = a := by rw [hQ, hr]; exact Nat.div_add_mod' _ _
    have hfq := fit_le hfa (show Q ≤ a by rw [hQ]; exact Nat.div_le_self _ _)
    have hfqm := fit_le hfa (show Q * m ≤ a by omega)
    have hfm := len_small HMB.out
    have hfr := len_small (Nat.lt_trans hrm HMB.out)
    have HDV : Hid (Calls Tryd.prog 23 #[.slice A0 xs.length cap0, .int .u64 (m : Int)] w14 (fun e w' => ∃ q, e = .returned (.tuple #[q, .int .u64 (r : Int), .bool true]) ∧ SU w' q (digs B64 Q) ∧ Below w14.heap.size w14 w')) := by
      have h1 := div_any (.slice A0 xs.length cap0) xs m w14 (s0.below k14) HX0.out (by omega) (by rw [← HVA.out]; omega) hmp hmB
      rw [← HVA.out, ← hr, ← hQ] at h1
      exact h1
    have HOM : Hid (∀ W, Calls Tryd.prog 35 #[.int .u64 (m : Int)] W (RetU W (digs B64 m))) := fun W => of_any (m : Int) W (by omega) HMB.out
    have HOR : Hid (∀ W, Calls Tryd.prog 35 #[.int .u64 (r : Int)] W (RetU W (digs B64 r))) := fun W => of_any (r : Int) W (by omega) (Nat.lt_trans hrm HMB.out)
    have HQX := Lib.hid hQx
    clear hr hQ hQx hm0
    go_wp2_with fail
    refine HDV.out.mono ?_
    rintro e w15 ⟨vQ, rfl, sQ, hb15⟩
    go_wp2_with fail
    refine (HOM.out _).mono ?_
    rintro e w16 ⟨vm, rfl, sm, hb16⟩
    go_wp2_with fail
    refine (HMUL.out _ _ _ (digs B64 Q) (digs B64 m) Q m (sQ.below hb16) sm (HDG.out _) (HDG.out _) (by omega) (by omega) (HVD.out _) (HVD.out _) (by omega) (by omega)).mono ?_
    rintro e w17 ⟨vz, rfl, sz, hb17⟩
    go_wp2_with fail
    refine (HOR.out _).mono ?_
    rintro e w18 ⟨vo, rfl, so, hb18⟩
    go_wp2_with fail
    refine (HADD.out _ _ _ (digs B64 (Q * m)) (digs B64 r) (Q * m) r (sz.below hb18) so (HDG.out _) (HDG.out _) (by omega) (by omega) (HVD.out _) (HVD.out _) (by omega) (by omega)).mono ?_
    rw [HQX.out]
    rintro e w19 ⟨vw, rfl, sw, hb19⟩
    have k19 := below_next (below_next (below_next (below_next hb15 hb16) hb17) hb18) hb19
    go_wp2_with fail
    refine (HCMP.out _ _ _ (digs B64 a) xs sw (s0.below (below_next k14 k19)) (HDG.out _) HX0.out (by omega) (by omega) (by rw [HVD.out]; exact HVA.out)).mono ?_
    rintro e w20 ⟨rfl, hb20⟩
    go_wp2
    go_ret
    exact ⟨rfl, below_next (below_next (below_next hb1 k14) k19) hb20⟩

set_option maxRecDepth 100000 in
set_option maxHeartbeats 400000 in
theorem rules_any (v : Value) (u : Value) (t : Value) (xs : List Nat) (ys : List Nat) (zs : List Nat) (m : Nat) (w : World) (h : SU w v xs) (h' : SU w u ys) (h2 : SU w t zs) (hx : Dig B64 xs) (hy : Dig B64 ys) (hz : Dig B64 zs) (htab : Tab w) (hmB : m < 18446744073709551616) :
    Calls Tryd.prog 9 #[v, u, t, .int .u64 (m : Int)] w (RetV w (.bool true)) := by
  by_cases hl0 : 8 < xs.length
  · obtain ⟨A0, cap0, rfl, hcap0, hs0⟩ := h
    obtain ⟨A1, cap1, rfl, hcap1, hs1⟩ := h'
    obtain ⟨A2, cap2, rfl, hcap2, hs2⟩ := h2
    have HT := Lib.hid (alive_any w htab)
    have e0 : decide (8 < xs.length) = true := decide_eq_true hl0
    clear hs0 hs1 hs2 hx hy hz htab
    go_enter Tryd.func9, Tryd.ntmps9
    go_wp2_with fail
    refine HT.out.mono ?_
    rintro e w1 ⟨rfl, hb1⟩
    go_wp2_with fail
    refine (long_any _ _ _ _).mono ?_
    rw [e0]
    rintro e w2 ⟨rfl, rfl⟩
    go_wp2
    go_ret
    exact ⟨rfl, hb1⟩
  · by_cases hl1 : 8 < ys.length
    · obtain ⟨A0, cap0, rfl, hcap0, hs0⟩ := h
      obtain ⟨A1, cap1, rfl, hcap1, hs1⟩ := h'
      obtain ⟨A2, cap2, rfl, hcap2, hs2⟩ := h2
      have HT := Lib.hid (alive_any w htab)
      have e0 : decide (8 < xs.length) = false := decide_eq_false hl0
      have e1 : decide (8 < ys.length) = true := decide_eq_true hl1
      clear hs0 hs1 hs2 hx hy hz htab
      go_enter Tryd.func9, Tryd.ntmps9
      go_wp2_with fail
      refine HT.out.mono ?_
      rintro e w1 ⟨rfl, hb1⟩
      go_wp2_with fail
      refine (long_any _ _ _ _).mono ?_
      rw [e0]
      rintro e w2 ⟨rfl, rfl⟩
      go_wp2_with fail
      refine (long_any _ _ _ _).mono ?_
      rw [e1]
      rintro e w2 ⟨rfl, rfl⟩
      go_wp2
      go_ret
      exact ⟨rfl, hb1⟩
    · by_cases hl2 : 8 < zs.length
      · obtain ⟨A0, cap0, rfl, hcap0, hs0⟩ := h
        obtain ⟨A1, cap1, rfl, hcap1, hs1⟩ := h'
        obtain ⟨A2, cap2, rfl, hcap2, hs2⟩ := h2
        have HT := Lib.hid (alive_any w htab)
        have e0 : decide (8 < xs.length) = false := decide_eq_false hl0
        have e1 : decide (8 < ys.length) = false := decide_eq_false hl1
        have e2 : decide (8 < zs.length) = true := decide_eq_true hl2
        clear hs0 hs1 hs2 hx hy hz htab
        go_enter Tryd.func9, Tryd.ntmps9
        go_wp2_with fail
        refine HT.out.mono ?_
        rintro e w1 ⟨rfl, hb1⟩
        go_wp2_with fail
        refine (long_any _ _ _ _).mono ?_
        rw [e0]
        rintro e w2 ⟨rfl, rfl⟩
        go_wp2_with fail
        refine (long_any _ _ _ _).mono ?_
        rw [e1]
        rintro e w2 ⟨rfl, rfl⟩
        go_wp2_with fail
        refine (long_any _ _ _ _).mono ?_
        rw [e2]
        rintro e w2 ⟨rfl, rfl⟩
        go_wp2
        go_ret
        exact ⟨rfl, hb1⟩
      · exact rules_short v u t xs ys zs m w h h' h2 hx hy hz htab (by omega) (by omega) (by omega) hmB

end Go.Proofs.YtmlijikandchoaaDoor
