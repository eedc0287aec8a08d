/- The walk of the statement SeqParts: it answers true. -/
import Derived.Test.YtndocahooajfgaaAlive
namespace Go.Proofs.Ytndocahooajfgaa
open Go.RowKit SeqMath
set_option maxHeartbeats 2000000
set_option maxRecDepth 100000

theorem law4_yes (v : Value) (xs : List Int) (n m : Int) (w : World) (h : SI w v xs) (hx : xs.length ≤ 100) (hn : n ≤ 9223372036854775807) (hm : m ≤ 9223372036854775807) :
    Calls Try.prog 4 #[v, .int .i64 n, .int .i64 m] w (RetV w (.bool true)) := by
  have HV := Lib.hid h
  have hl1 : (xs.take n.toNat).length ≤ 100 := by simp; omega
  have hl2 : (xs.drop n.toNat).length ≤ 100 := by simp; omega
  have hl3 : (everyL xs n).length ≤ 100 := Nat.le_trans (every_len _ _) hx
  have hl4 : (xs.take m.toNat).length ≤ 100 := by simp; omega
  have col : ∀ ys : List Int, ys.length ≤ 100 → ∀ u w1, Row w1 u ys → Calls Try.prog 13 #[u, .int .i64 200] w1 (RetI w1 ys) := fun ys hy u w1 hr => by
    have e : ys.take (200 : Int).toNat = ys := List.take_of_length_le (by have : (200 : Int).toNat = 200 := rfl; omega)
    have := collect_r u ys 200 w1 hr (by omega) (by rw [e]; omega)
    rwa [e] at this
  have HC := Lib.hid col
  have HO := Lib.hid (fun w1 (hs : SI w1 v xs) => of_r v xs w1 hs (by omega))
  have HT := Lib.hid (fun u w1 (hr : Row w1 u xs) => take_r u xs n w1 hr hn)
  have HS := Lib.hid (fun u w1 (hr : Row w1 u xs) => skip_r u xs n w1 hr hn)
  have HE := Lib.hid (fun u w1 (hr : Row w1 u xs) => every_r u xs n w1 hr hn)
  have HCM := Lib.hid (fun u w1 (hr : Row w1 u xs) => collect_r u xs m w1 hr hm (by omega))
  have HLM := Lib.hid (fun u w1 (hr : Row w1 u xs) => len_r u xs m w1 hr hm (by omega))
  have HRT := Lib.hid (fun w1 (hs : SI w1 v xs) => refTake_any v xs n w1 hs (by omega))
  have HRM := Lib.hid (fun w1 (hs : SI w1 v xs) => refTake_any v xs m w1 hs (by omega))
  have HRS := Lib.hid (fun w1 (hs : SI w1 v xs) => refSkip_any v xs n w1 hs (by omega))
  have HRE := Lib.hid (fun w1 (hs : SI w1 v xs) => refEvery_any v xs n w1 hs (by omega) hn)
  generalize xs.take n.toNat = ya at *
  generalize xs.drop n.toNat = yb at *
  generalize everyL xs n = yc at *
  generalize xs.take m.toNat = yd at *
  have L1 := Lib.hid hl1
  have L2 := Lib.hid hl2
  have L3 := Lib.hid hl3
  have L4 := Lib.hid hl4
  clear hl1 hl2 hl3 hl4 col
  obtain ⟨A, cap, rfl, hcap, -⟩ := h
  generalize xs.length = nx at *
  go_enter Try.func4, Try.ntmps4
  have hc1 := alive_any w
  have HC1 := Lib.hid hc1
  clear hc1
  go_wp2_with fail
  refine HC1.out.mono ?_
  rintro e w1 ⟨rfl, hb1⟩
  have hbw1 := hb1
  have HV_1 := Lib.hid (HV.out.below hb1)
  clear HV
  clear hb1 HC1
  have hc2 := HO.out w1 HV_1.out
  have HC2 := Lib.hid hc2
  clear hc2
  go_wp2_with fail
  refine HC2.out.mono ?_
  rintro e w2 ⟨g2, l2, rfl, hs2, hb2⟩
  have hbw2 := Below.step hbw1 hb2
  have HV_2 := Lib.hid (HV_1.out.below hb2)
  clear HV_1
  have R_2 := Lib.hid hs2
  clear hs2
  clear hb2 HC2 hbw1
  have hc3 := HT.out _ w2 R_2.out
  have HC3 := Lib.hid hc3
  clear hc3
  go_wp2_with fail
  refine HC3.out.mono ?_
  rintro e w3 ⟨g3, l3, rfl, hs3, hb3⟩
  have hbw3 := Below.step hbw2 hb3
  have HV_3 := Lib.hid (HV_2.out.below hb3)
  clear HV_2
  have R_3 := Lib.hid (R_2.out.below hb3)
  clear R_2
  have T_3 := Lib.hid hs3
  clear hs3
  clear hb3 HC3 hbw2
  have hc4 := HC.out ya L1.out _ w3 T_3.out
  have HC4 := Lib.hid hc4
  clear hc4
  go_wp2_with fail
  refine HC4.out.mono ?_
  rintro e w4 ⟨v4, rfl, ho4, hb4⟩
  have hs4 := ho4.si
  obtain ⟨A4, c4, rfl, -⟩ := own_slice ho4
  have hbw4 := Below.step hbw3 hb4
  have HV_4 := Lib.hid (HV_3.out.below hb4)
  clear HV_3
  have R_4 := Lib.hid (R_3.out.below hb4)
  clear R_3
  have T_4 := Lib.hid (T_3.out.below hb4)
  clear T_3
  have CA_4 := Lib.hid hs4
  clear hs4 ho4
  clear hb4 HC4 hbw3
  have hc5 := HS.out _ w4 R_4.out
  have HC5 := Lib.hid hc5
  clear hc5
  go_wp2_with fail
  refine HC5.out.mono ?_
  rintro e w5 ⟨g5, l5, rfl, hs5, hb5⟩
  have hbw5 := Below.step hbw4 hb5
  have HV_5 := Lib.hid (HV_4.out.below hb5)
  clear HV_4
  have R_5 := Lib.hid (R_4.out.below hb5)
  clear R_4
  have T_5 := Lib.hid (T_4.out.below hb5)
  clear T_4
  have CA_5 := Lib.hid (CA_4.out.below hb5)
  clear CA_4
  have S_5 := Lib.hid hs5
  clear hs5
  clear hb5 HC5 hbw4
  have hc6 := HC.out yb L2.out _ w5 S_5.out
  have HC6 := Lib.hid hc6
  clear hc6
  go_wp2_with fail
  refine HC6.out.mono ?_
  rintro e w6 ⟨v6, rfl, ho6, hb6⟩
  have hs6 := ho6.si
  obtain ⟨A6, c6, rfl, -⟩ := own_slice ho6
  have hbw6 := Below.step hbw5 hb6
  have HV_6 := Lib.hid (HV_5.out.below hb6)
  clear HV_5
  have R_6 := Lib.hid (R_5.out.below hb6)
  clear R_5
  have T_6 := Lib.hid (T_5.out.below hb6)
  clear T_5
  have CA_6 := Lib.hid (CA_5.out.below hb6)
  clear CA_5
  have S_6 := Lib.hid (S_5.out.below hb6)
  clear S_5
  have CB_6 := Lib.hid hs6
  clear hs6 ho6
  clear hb6 HC6 hbw5
  have hc7 := HE.out _ w6 R_6.out
  have HC7 := Lib.hid hc7
  clear hc7
  go_wp2_with fail
  refine HC7.out.mono ?_
  rintro e w7 ⟨g7, l7, rfl, hs7, hb7⟩
  have hbw7 := Below.step hbw6 hb7
  have HV_7 := Lib.hid (HV_6.out.below hb7)
  clear HV_6
  have R_7 := Lib.hid (R_6.out.below hb7)
  clear R_6
  have T_7 := Lib.hid (T_6.out.below hb7)
  clear T_6
  have CA_7 := Lib.hid (CA_6.out.below hb7)
  clear CA_6
  have S_7 := Lib.hid (S_6.out.below hb7)
  clear S_6
  have CB_7 := Lib.hid (CB_6.out.below hb7)
  clear CB_6
  have E_7 := Lib.hid hs7
  clear hs7
  clear hb7 HC7 hbw6
  have hc8 := HC.out yc L3.out _ w7 E_7.out
  have HC8 := Lib.hid hc8
  clear hc8
  go_wp2_with fail
  refine HC8.out.mono ?_
  rintro e w8 ⟨v8, rfl, ho8, hb8⟩
  have hs8 := ho8.si
  obtain ⟨A8, c8, rfl, -⟩ := own_slice ho8
  have hbw8 := Below.step hbw7 hb8
  have HV_8 := Lib.hid (HV_7.out.below hb8)
  clear HV_7
  have R_8 := Lib.hid (R_7.out.below hb8)
  clear R_7
  have T_8 := Lib.hid (T_7.out.below hb8)
  clear T_7
  have CA_8 := Lib.hid (CA_7.out.below hb8)
  clear CA_7
  have S_8 := Lib.hid (S_7.out.below hb8)
  clear S_7
  have CB_8 := Lib.hid (CB_7.out.below hb8)
  clear CB_7
  have E_8 := Lib.hid (E_7.out.below hb8)
  clear E_7
  have CC_8 := Lib.hid hs8
  clear hs8 ho8
  clear hb8 HC8 hbw7
  have hc9 := HRT.out w8 HV_8.out
  have HC9 := Lib.hid hc9
  clear hc9
  go_wp2_with fail
  refine HC9.out.mono ?_
  rintro e w9 ⟨v9, rfl, ho9, hb9⟩
  have hs9 := ho9.si
  obtain ⟨A9, c9, rfl, -⟩ := own_slice ho9
  have hbw9 := Below.step hbw8 hb9
  have HV_9 := Lib.hid (HV_8.out.below hb9)
  clear HV_8
  have R_9 := Lib.hid (R_8.out.below hb9)
  clear R_8
  have T_9 := Lib.hid (T_8.out.below hb9)
  clear T_8
  have CA_9 := Lib.hid (CA_8.out.below hb9)
  clear CA_8
  have S_9 := Lib.hid (S_8.out.below hb9)
  clear S_8
  have CB_9 := Lib.hid (CB_8.out.below hb9)
  clear CB_8
  have E_9 := Lib.hid (E_8.out.below hb9)
  clear E_8
  have CC_9 := Lib.hid (CC_8.out.below hb9)
  clear CC_8
  have RA_9 := Lib.hid hs9
  clear hs9 ho9
  clear hb9 HC9 hbw8
  have hc10 := same_yes _ _ ya w9 CA_9.out RA_9.out (by have := L1.out; omega)
  have HC10 := Lib.hid hc10
  clear hc10
  go_wp2_with fail
  refine HC10.out.mono ?_
  rintro e w10 ⟨rfl, hb10⟩
  have hbw10 := Below.step hbw9 hb10
  have HV_10 := Lib.hid (HV_9.out.below hb10)
  clear HV_9
  have R_10 := Lib.hid (R_9.out.below hb10)
  clear R_9
  have T_10 := Lib.hid (T_9.out.below hb10)
  clear T_9
  have CA_10 := Lib.hid (CA_9.out.below hb10)
  clear CA_9
  have S_10 := Lib.hid (S_9.out.below hb10)
  clear S_9
  have CB_10 := Lib.hid (CB_9.out.below hb10)
  clear CB_9
  have E_10 := Lib.hid (E_9.out.below hb10)
  clear E_9
  have CC_10 := Lib.hid (CC_9.out.below hb10)
  clear CC_9
  have RA_10 := Lib.hid (RA_9.out.below hb10)
  clear RA_9
  clear hb10 HC10 hbw9
  have hc11 := HRS.out w10 HV_10.out
  have HC11 := Lib.hid hc11
  clear hc11
  go_wp2_with fail
  refine HC11.out.mono ?_
  rintro e w11 ⟨v11, rfl, ho11, hb11⟩
  have hs11 := ho11.si
  obtain ⟨A11, c11, rfl, -⟩ := own_slice ho11
  have hbw11 := Below.step hbw10 hb11
  have HV_11 := Lib.hid (HV_10.out.below hb11)
  clear HV_10
  have R_11 := Lib.hid (R_10.out.below hb11)
  clear R_10
  have T_11 := Lib.hid (T_10.out.below hb11)
  clear T_10
  have CA_11 := Lib.hid (CA_10.out.below hb11)
  clear CA_10
  have S_11 := Lib.hid (S_10.out.below hb11)
  clear S_10
  have CB_11 := Lib.hid (CB_10.out.below hb11)
  clear CB_10
  have E_11 := Lib.hid (E_10.out.below hb11)
  clear E_10
  have CC_11 := Lib.hid (CC_10.out.below hb11)
  clear CC_10
  have RA_11 := Lib.hid (RA_10.out.below hb11)
  clear RA_10
  have RB_11 := Lib.hid hs11
  clear hs11 ho11
  clear hb11 HC11 hbw10
  have hc12 := same_yes _ _ yb w11 CB_11.out RB_11.out (by have := L2.out; omega)
  have HC12 := Lib.hid hc12
  clear hc12
  go_wp2_with fail
  refine HC12.out.mono ?_
  rintro e w12 ⟨rfl, hb12⟩
  have hbw12 := Below.step hbw11 hb12
  have HV_12 := Lib.hid (HV_11.out.below hb12)
  clear HV_11
  have R_12 := Lib.hid (R_11.out.below hb12)
  clear R_11
  have T_12 := Lib.hid (T_11.out.below hb12)
  clear T_11
  have CA_12 := Lib.hid (CA_11.out.below hb12)
  clear CA_11
  have S_12 := Lib.hid (S_11.out.below hb12)
  clear S_11
  have CB_12 := Lib.hid (CB_11.out.below hb12)
  clear CB_11
  have E_12 := Lib.hid (E_11.out.below hb12)
  clear E_11
  have CC_12 := Lib.hid (CC_11.out.below hb12)
  clear CC_11
  have RA_12 := Lib.hid (RA_11.out.below hb12)
  clear RA_11
  have RB_12 := Lib.hid (RB_11.out.below hb12)
  clear RB_11
  clear hb12 HC12 hbw11
  have hc13 := HRE.out w12 HV_12.out
  have HC13 := Lib.hid hc13
  clear hc13
  go_wp2_with fail
  refine HC13.out.mono ?_
  rintro e w13 ⟨v13, rfl, ho13, hb13⟩
  have hs13 := ho13.si
  obtain ⟨A13, c13, rfl, -⟩ := own_slice ho13
  have hbw13 := Below.step hbw12 hb13
  have HV_13 := Lib.hid (HV_12.out.below hb13)
  clear HV_12
  have R_13 := Lib.hid (R_12.out.below hb13)
  clear R_12
  have T_13 := Lib.hid (T_12.out.below hb13)
  clear T_12
  have CA_13 := Lib.hid (CA_12.out.below hb13)
  clear CA_12
  have S_13 := Lib.hid (S_12.out.below hb13)
  clear S_12
  have CB_13 := Lib.hid (CB_12.out.below hb13)
  clear CB_12
  have E_13 := Lib.hid (E_12.out.below hb13)
  clear E_12
  have CC_13 := Lib.hid (CC_12.out.below hb13)
  clear CC_12
  have RA_13 := Lib.hid (RA_12.out.below hb13)
  clear RA_12
  have RB_13 := Lib.hid (RB_12.out.below hb13)
  clear RB_12
  have RC_13 := Lib.hid hs13
  clear hs13 ho13
  clear hb13 HC13 hbw12
  have hc14 := same_yes _ _ yc w13 CC_13.out RC_13.out (by have := L3.out; omega)
  have HC14 := Lib.hid hc14
  clear hc14
  go_wp2_with fail
  refine HC14.out.mono ?_
  rintro e w14 ⟨rfl, hb14⟩
  have hbw14 := Below.step hbw13 hb14
  have HV_14 := Lib.hid (HV_13.out.below hb14)
  clear HV_13
  have R_14 := Lib.hid (R_13.out.below hb14)
  clear R_13
  have T_14 := Lib.hid (T_13.out.below hb14)
  clear T_13
  have CA_14 := Lib.hid (CA_13.out.below hb14)
  clear CA_13
  have S_14 := Lib.hid (S_13.out.below hb14)
  clear S_13
  have CB_14 := Lib.hid (CB_13.out.below hb14)
  clear CB_13
  have E_14 := Lib.hid (E_13.out.below hb14)
  clear E_13
  have CC_14 := Lib.hid (CC_13.out.below hb14)
  clear CC_13
  have RA_14 := Lib.hid (RA_13.out.below hb14)
  clear RA_13
  have RB_14 := Lib.hid (RB_13.out.below hb14)
  clear RB_13
  have RC_14 := Lib.hid (RC_13.out.below hb14)
  clear RC_13
  clear hb14 HC14 hbw13
  have hc15 := HCM.out _ w14 R_14.out
  have HC15 := Lib.hid hc15
  clear hc15
  go_wp2_with fail
  refine HC15.out.mono ?_
  rintro e w15 ⟨v15, rfl, ho15, hb15⟩
  have hs15 := ho15.si
  obtain ⟨A15, c15, rfl, -⟩ := own_slice ho15
  have hbw15 := Below.step hbw14 hb15
  have HV_15 := Lib.hid (HV_14.out.below hb15)
  clear HV_14
  have R_15 := Lib.hid (R_14.out.below hb15)
  clear R_14
  have T_15 := Lib.hid (T_14.out.below hb15)
  clear T_14
  have CA_15 := Lib.hid (CA_14.out.below hb15)
  clear CA_14
  have S_15 := Lib.hid (S_14.out.below hb15)
  clear S_14
  have CB_15 := Lib.hid (CB_14.out.below hb15)
  clear CB_14
  have E_15 := Lib.hid (E_14.out.below hb15)
  clear E_14
  have CC_15 := Lib.hid (CC_14.out.below hb15)
  clear CC_14
  have RA_15 := Lib.hid (RA_14.out.below hb15)
  clear RA_14
  have RB_15 := Lib.hid (RB_14.out.below hb15)
  clear RB_14
  have RC_15 := Lib.hid (RC_14.out.below hb15)
  clear RC_14
  have CD_15 := Lib.hid hs15
  clear hs15 ho15
  clear hb15 HC15 hbw14
  have hc16 := HRM.out w15 HV_15.out
  have HC16 := Lib.hid hc16
  clear hc16
  go_wp2_with fail
  refine HC16.out.mono ?_
  rintro e w16 ⟨v16, rfl, ho16, hb16⟩
  have hs16 := ho16.si
  obtain ⟨A16, c16, rfl, -⟩ := own_slice ho16
  have hbw16 := Below.step hbw15 hb16
  have HV_16 := Lib.hid (HV_15.out.below hb16)
  clear HV_15
  have R_16 := Lib.hid (R_15.out.below hb16)
  clear R_15
  have T_16 := Lib.hid (T_15.out.below hb16)
  clear T_15
  have CA_16 := Lib.hid (CA_15.out.below hb16)
  clear CA_15
  have S_16 := Lib.hid (S_15.out.below hb16)
  clear S_15
  have CB_16 := Lib.hid (CB_15.out.below hb16)
  clear CB_15
  have E_16 := Lib.hid (E_15.out.below hb16)
  clear E_15
  have CC_16 := Lib.hid (CC_15.out.below hb16)
  clear CC_15
  have RA_16 := Lib.hid (RA_15.out.below hb16)
  clear RA_15
  have RB_16 := Lib.hid (RB_15.out.below hb16)
  clear RB_15
  have RC_16 := Lib.hid (RC_15.out.below hb16)
  clear RC_15
  have CD_16 := Lib.hid (CD_15.out.below hb16)
  clear CD_15
  have RD_16 := Lib.hid hs16
  clear hs16 ho16
  clear hb16 HC16 hbw15
  have hc17 := same_yes _ _ yd w16 CD_16.out RD_16.out (by have := L4.out; omega)
  have HC17 := Lib.hid hc17
  clear hc17
  go_wp2_with fail
  refine HC17.out.mono ?_
  rintro e w17 ⟨rfl, hb17⟩
  have hbw17 := Below.step hbw16 hb17
  have HV_17 := Lib.hid (HV_16.out.below hb17)
  clear HV_16
  have R_17 := Lib.hid (R_16.out.below hb17)
  clear R_16
  have T_17 := Lib.hid (T_16.out.below hb17)
  clear T_16
  have CA_17 := Lib.hid (CA_16.out.below hb17)
  clear CA_16
  have S_17 := Lib.hid (S_16.out.below hb17)
  clear S_16
  have CB_17 := Lib.hid (CB_16.out.below hb17)
  clear CB_16
  have E_17 := Lib.hid (E_16.out.below hb17)
  clear E_16
  have CC_17 := Lib.hid (CC_16.out.below hb17)
  clear CC_16
  have RA_17 := Lib.hid (RA_16.out.below hb17)
  clear RA_16
  have RB_17 := Lib.hid (RB_16.out.below hb17)
  clear RB_16
  have RC_17 := Lib.hid (RC_16.out.below hb17)
  clear RC_16
  have CD_17 := Lib.hid (CD_16.out.below hb17)
  clear CD_16
  have RD_17 := Lib.hid (RD_16.out.below hb17)
  clear RD_16
  clear hb17 HC17 hbw16
  have hc18 := HLM.out _ w17 R_17.out
  have HC18 := Lib.hid hc18
  clear hc18
  go_wp2_with fail
  refine HC18.out.mono ?_
  rintro e w18 ⟨rfl, hb18⟩
  have hbw18 := Below.step hbw17 hb18
  have HV_18 := Lib.hid (HV_17.out.below hb18)
  clear HV_17
  have R_18 := Lib.hid (R_17.out.below hb18)
  clear R_17
  have T_18 := Lib.hid (T_17.out.below hb18)
  clear T_17
  have CA_18 := Lib.hid (CA_17.out.below hb18)
  clear CA_17
  have S_18 := Lib.hid (S_17.out.below hb18)
  clear S_17
  have CB_18 := Lib.hid (CB_17.out.below hb18)
  clear CB_17
  have E_18 := Lib.hid (E_17.out.below hb18)
  clear E_17
  have CC_18 := Lib.hid (CC_17.out.below hb18)
  clear CC_17
  have RA_18 := Lib.hid (RA_17.out.below hb18)
  clear RA_17
  have RB_18 := Lib.hid (RB_17.out.below hb18)
  clear RB_17
  have RC_18 := Lib.hid (RC_17.out.below hb18)
  clear RC_17
  have CD_18 := Lib.hid (CD_17.out.below hb18)
  clear CD_17
  have RD_18 := Lib.hid (RD_17.out.below hb18)
  clear RD_17
  clear hb18 HC18 hbw17
  have hc19 := HRM.out w18 HV_18.out
  have HC19 := Lib.hid hc19
  clear hc19
  go_wp2_with fail
  refine HC19.out.mono ?_
  rintro e w19 ⟨v19, rfl, ho19, hb19⟩
  have hs19 := ho19.si
  obtain ⟨A19, c19, rfl, -⟩ := own_slice ho19
  have hbw19 := Below.step hbw18 hb19
  have HV_19 := Lib.hid (HV_18.out.below hb19)
  clear HV_18
  have R_19 := Lib.hid (R_18.out.below hb19)
  clear R_18
  have T_19 := Lib.hid (T_18.out.below hb19)
  clear T_18
  have CA_19 := Lib.hid (CA_18.out.below hb19)
  clear CA_18
  have S_19 := Lib.hid (S_18.out.below hb19)
  clear S_18
  have CB_19 := Lib.hid (CB_18.out.below hb19)
  clear CB_18
  have E_19 := Lib.hid (E_18.out.below hb19)
  clear E_18
  have CC_19 := Lib.hid (CC_18.out.below hb19)
  clear CC_18
  have RA_19 := Lib.hid (RA_18.out.below hb19)
  clear RA_18
  have RB_19 := Lib.hid (RB_18.out.below hb19)
  clear RB_18
  have RC_19 := Lib.hid (RC_18.out.below hb19)
  clear RC_18
  have CD_19 := Lib.hid (CD_18.out.below hb19)
  clear CD_18
  have RD_19 := Lib.hid (RD_18.out.below hb19)
  clear RD_18
  have RE_19 := Lib.hid hs19
  clear hs19 ho19
  clear hb19 HC19 hbw18
  have HB := Lib.hid hbw19
  clear hbw19
  go_wp2
  go_ret
  exact ⟨rfl, HB.out⟩

theorem law4_any (v : Value) (xs : List Int) (n m : Int) (w : World) (h : SI w v xs) (hx : xs.length ≤ 9223372036854775807) (hn : n ≤ 9223372036854775807) (hm : m ≤ 9223372036854775807) :
    Calls Try.prog 4 #[v, .int .i64 n, .int .i64 m] w (RetV w (.bool true)) := by
  by_cases hl : xs.length ≤ 100
  · exact law4_yes v xs n m w h hl hn hm
  · obtain ⟨A, cap, rfl, hcap, -⟩ := h
    generalize xs.length = nx at *
    go_enter Try.func4, Try.ntmps4
    go_wp2_with fail
    refine (alive_any w).mono ?_
    rintro e w1 ⟨rfl, hb1⟩
    go_wp2
    go_ret
    exact ⟨rfl, hb1⟩

end Go.Proofs.Ytndocahooajfgaa
