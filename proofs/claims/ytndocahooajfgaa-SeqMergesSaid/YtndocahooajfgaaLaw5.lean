/- The walk of the statement SeqMerges: it answers true. -/
import Derived.Test.YtndocahooajfgaaLits
namespace Go.Proofs.Ytndocahooajfgaa
open Go.RowKit SeqMath
set_option maxHeartbeats 2000000
set_option maxRecDepth 100000

theorem law5_yes (v u : Value) (la lb : List Int) (m : Int) (w : World) (h : SI w v la) (h' : SI w u lb) (hv0 : ∀ n c, v = .slice none n c → c = 0) (hu0 : ∀ n c, u = .slice none n c → c = 0) (hx : la.length ≤ 100) (hx' : lb.length ≤ 100) (hm : 0 ≤ m ∧ m ≤ 255) :
    Calls Try.prog 5 #[v, u, .int .u8 m] w (RetV w (.bool true)) := by
  obtain ⟨hm0, hm1⟩ := hm
  have HV := Lib.hid h
  have HU := Lib.hid h'
  have HSV := Lib.hid (h.src hv0)
  have HSU := Lib.hid (h'.src hu0)
  have hml : (mrg la lb).length ≤ 200 := by have := mrg_len la lb; omega
  have hmt : ((mrg la lb).take m.toNat).length ≤ 200 := by simp; omega
  have hab : (la ++ lb).length ≤ 200 := by simp; omega
  have hat : ((la ++ lb).take m.toNat).length ≤ 200 := by simp; omega
  have HO := Lib.hid (fun w1 (hs : SI w1 v la) => of_r v la w1 hs (by omega))
  have HO' := Lib.hid (fun w1 (hs : SI w1 u lb) => of_r u lb w1 hs (by omega))
  have HM := Lib.hid (fun r w1 (hr : Row w1 r la) (hs : SI w1 u lb) => merge_r r u la lb w1 hr hs (by omega))
  have HC := Lib.hid (fun r1 r2 w1 (h1 : Row w1 r1 la) (h2 : Row w1 r2 lb) => concat_three w1 r1 r2 la lb h1 h2)
  have HRM := Lib.hid (fun w1 (hs : SI w1 v la) (hs' : SI w1 u lb) => refMerge_any v u la lb w1 hs hs' hv0 hu0 (by omega) (by omega))
  have HRT := Lib.hid (fun r w1 (hs : SI w1 r (mrg la lb)) => refTake_any r (mrg la lb) m w1 hs (by omega))
  have HRA := Lib.hid (fun r w1 (hs : SI w1 r (la ++ lb)) => refTake_any r (la ++ lb) m w1 hs (by omega))
  have HCM := Lib.hid (fun r w1 (hr : Row w1 r (mrg la lb)) => collect_r r (mrg la lb) m w1 hr (by omega) (by omega))
  have HCA := Lib.hid (fun r w1 (hr : Row w1 r (la ++ lb)) => collect_r r (la ++ lb) m w1 hr (by omega) (by omega))
  have hc3 : ∀ (r : Value) (w1 : World), Row w1 r (mrg la lb) → Calls Try.prog 13 #[r, .int .i64 300] w1 (RetI w1 (mrg la lb)) := fun r w1 hr => by
    have e : (mrg la lb).take (300 : Int).toNat = mrg la lb := List.take_of_length_le (by have : (300 : Int).toNat = 300 := rfl; omega)
    have := collect_r r (mrg la lb) 300 w1 hr (by omega) (by rw [e]; omega)
    rwa [e] at this
  have HC3 := Lib.hid hc3
  clear hc3 hv0 hu0
  obtain ⟨mt, hmt2⟩ : ∃ mt, (mrg la lb).take m.toNat = mt := ⟨_, rfl⟩
  rw [hmt2] at HRT HCM hmt
  obtain ⟨ml, hml2⟩ : ∃ ml, mrg la lb = ml := ⟨_, rfl⟩
  rw [hml2] at HM HRM HRT HCM HC3 hml
  obtain ⟨pt, hpt2⟩ : ∃ pt, (la ++ lb).take m.toNat = pt := ⟨_, rfl⟩
  rw [hpt2] at HRA HCA hat
  obtain ⟨pl, hpl2⟩ : ∃ pl, la ++ lb = pl := ⟨_, rfl⟩
  rw [hpl2] at HC HRA HCA hab
  have HAB := Lib.hid hpl2
  have L1 := Lib.hid hmt
  have L2 := Lib.hid hat
  have L3 := Lib.hid hml
  clear hmt hat hml hab hmt2 hml2 hpt2 hpl2
  obtain ⟨A, cap, rfl, hcap, -⟩ := h
  obtain ⟨A', cap', rfl, hcap', -⟩ := h'
  generalize hna : la.length = na at *
  generalize hnb : lb.length = nb at *
  have HNA := Lib.hid hna
  have HNB := Lib.hid hnb
  clear hna hnb
  go_enter Try.func5, Try.ntmps5
  have hc1 := alive_any w
  have HC1 := Lib.hid hc1
  clear hc1
  go_wp2_with fail
  refine HC1.out.mono ?_
  rintro e w1 ⟨rfl, hb1⟩
  have hbw1 := hb1
  have HV_1 := Lib.hid (HV.out.below hb1)
  clear HV
  have HU_1 := Lib.hid (HU.out.below hb1)
  clear HU
  have HSV_1 := Lib.hid (HSV.out.below hb1)
  clear HSV
  have HSU_1 := Lib.hid (HSU.out.below hb1)
  clear HSU
  clear hb1 HC1
  have hc2 := HO.out w1 HV_1.out
  have HC2 := Lib.hid hc2
  clear hc2
  go_wp2_with fail
  refine HC2.out.mono ?_
  rintro e w2 ⟨g2, l2, rfl, hs2, hb2⟩
  have hbw2 := Below.step hbw1 hb2
  have HV_2 := Lib.hid (HV_1.out.below hb2)
  clear HV_1
  have HU_2 := Lib.hid (HU_1.out.below hb2)
  clear HU_1
  have HSV_2 := Lib.hid (HSV_1.out.below hb2)
  clear HSV_1
  have HSU_2 := Lib.hid (HSU_1.out.below hb2)
  clear HSU_1
  have R1_2 := Lib.hid hs2
  clear hs2
  clear hb2 HC2 hbw1
  have hc3 := HM.out _ w2 R1_2.out HU_2.out
  have HC3 := Lib.hid hc3
  clear hc3
  go_wp2_with fail
  refine HC3.out.mono ?_
  rintro e w3 ⟨g3, l3, rfl, hs3, hb3⟩
  have hbw3 := Below.step hbw2 hb3
  have HV_3 := Lib.hid (HV_2.out.below hb3)
  clear HV_2
  have HU_3 := Lib.hid (HU_2.out.below hb3)
  clear HU_2
  have HSV_3 := Lib.hid (HSV_2.out.below hb3)
  clear HSV_2
  have HSU_3 := Lib.hid (HSU_2.out.below hb3)
  clear HSU_2
  have R1_3 := Lib.hid (R1_2.out.below hb3)
  clear R1_2
  have M_3 := Lib.hid hs3
  clear hs3
  clear hb3 HC3 hbw2
  have hc4 := HO.out w3 HV_3.out
  have HC4 := Lib.hid hc4
  clear hc4
  go_wp2_with fail
  refine HC4.out.mono ?_
  rintro e w4 ⟨g4, l4, rfl, hs4, hb4⟩
  have hbw4 := Below.step hbw3 hb4
  have HV_4 := Lib.hid (HV_3.out.below hb4)
  clear HV_3
  have HU_4 := Lib.hid (HU_3.out.below hb4)
  clear HU_3
  have HSV_4 := Lib.hid (HSV_3.out.below hb4)
  clear HSV_3
  have HSU_4 := Lib.hid (HSU_3.out.below hb4)
  clear HSU_3
  have R1_4 := Lib.hid (R1_3.out.below hb4)
  clear R1_3
  have M_4 := Lib.hid (M_3.out.below hb4)
  clear M_3
  have R2_4 := Lib.hid hs4
  clear hs4
  clear hb4 HC4 hbw3
  have hc5 := HO'.out w4 HU_4.out
  have HC5 := Lib.hid hc5
  clear hc5
  go_wp2_with fail
  refine HC5.out.mono ?_
  rintro e w5 ⟨g5, l5, rfl, hs5, hb5⟩
  have hbw5 := Below.step hbw4 hb5
  have HV_5 := Lib.hid (HV_4.out.below hb5)
  clear HV_4
  have HU_5 := Lib.hid (HU_4.out.below hb5)
  clear HU_4
  have HSV_5 := Lib.hid (HSV_4.out.below hb5)
  clear HSV_4
  have HSU_5 := Lib.hid (HSU_4.out.below hb5)
  clear HSU_4
  have R1_5 := Lib.hid (R1_4.out.below hb5)
  clear R1_4
  have M_5 := Lib.hid (M_4.out.below hb5)
  clear M_4
  have R2_5 := Lib.hid (R2_4.out.below hb5)
  clear R2_4
  have R3_5 := Lib.hid hs5
  clear hs5
  clear hb5 HC5 hbw4
  have hc6 := HC.out _ _ w5 R2_5.out R3_5.out
  have HC6 := Lib.hid hc6
  clear hc6
  go_wp2_with fail
  refine HC6.out.mono ?_
  rintro e w6 ⟨g6, l6, rfl, hs6, hb6⟩
  have hbw6 := Below.step hbw5 hb6
  have HV_6 := Lib.hid (HV_5.out.below hb6)
  clear HV_5
  have HU_6 := Lib.hid (HU_5.out.below hb6)
  clear HU_5
  have HSV_6 := Lib.hid (HSV_5.out.below hb6)
  clear HSV_5
  have HSU_6 := Lib.hid (HSU_5.out.below hb6)
  clear HSU_5
  have R1_6 := Lib.hid (R1_5.out.below hb6)
  clear R1_5
  have M_6 := Lib.hid (M_5.out.below hb6)
  clear M_5
  have R2_6 := Lib.hid (R2_5.out.below hb6)
  clear R2_5
  have R3_6 := Lib.hid (R3_5.out.below hb6)
  clear R3_5
  have CC_6 := Lib.hid hs6
  clear hs6
  clear hb6 HC6 hbw5
  have hbz : Below w6.heap.size w6 (w6.alloc (.cells #[] 3)) := (Below.refl _ _).alloc (Nat.le_refl _) _
  have HSVz := Lib.hid (HSV_6.out.below hbz)
  go_wp2_with (at_builtin; refine wpList_apps w6.heap.size (w6.alloc (.cells #[] 3)) rfl (.tmp 33) (.tmp 34) rfl _ _ [] la rfl rfl (own_zero w6) HSVz.out (by have := HNA.out; simp; omega) (by simp) ?_)
  intro va wa howna hba
  try rw [List.nil_append] at howna
  have hbwa : Below w6.heap.size w6 wa := hbz.trans hba
  have HOA := Lib.hid howna
  have HSUa := Lib.hid (HSU_6.out.below hbwa)
  clear howna hba hbz
  go_wp2_with (at_builtin; refine wpList_apps w6.heap.size wa rfl (.tmp 35) (.tmp 36) rfl _ _ la lb rfl rfl HOA.out HSUa.out (by have := HNA.out; have := HNB.out; omega) hbwa.size ?_)
  intro vb w7 ho7 hbb
  have hb7 : Below w6.heap.size w6 w7 := hbwa.trans hbb
  clear hbb hbwa
  rw [HAB.out] at ho7
  have hs7 := ho7.si
  have NCW := Lib.hid (own_nocap ho7)
  obtain ⟨A7, c7, rfl, -⟩ := own_slice ho7
  have hbw7 := Below.step hbw6 hb7
  have HV_7 := Lib.hid (HV_6.out.below hb7)
  clear HV_6
  have HU_7 := Lib.hid (HU_6.out.below hb7)
  clear HU_6
  have HSV_7 := Lib.hid (HSV_6.out.below hb7)
  clear HSV_6
  have HSU_7 := Lib.hid (HSU_6.out.below hb7)
  clear HSU_6
  have R1_7 := Lib.hid (R1_6.out.below hb7)
  clear R1_6
  have M_7 := Lib.hid (M_6.out.below hb7)
  clear M_6
  have R2_7 := Lib.hid (R2_6.out.below hb7)
  clear R2_6
  have R3_7 := Lib.hid (R3_6.out.below hb7)
  clear R3_6
  have CC_7 := Lib.hid (CC_6.out.below hb7)
  clear CC_6
  have W_7 := Lib.hid hs7
  clear hs7 ho7 hb7 hbw6
  have hc8 := HCM.out _ w7 M_7.out
  have HC8 := Lib.hid hc8
  clear hc8
  go_wp2_with fail
  refine HC8.out.mono ?_
  rintro e w8 ⟨v8, rfl, ho8, hb8⟩
  have hs8 := ho8.si
  obtain ⟨A8, c8, rfl, -⟩ := own_slice ho8
  have hbw8 := Below.step hbw7 hb8
  have HV_8 := Lib.hid (HV_7.out.below hb8)
  clear HV_7
  have HU_8 := Lib.hid (HU_7.out.below hb8)
  clear HU_7
  have HSV_8 := Lib.hid (HSV_7.out.below hb8)
  clear HSV_7
  have HSU_8 := Lib.hid (HSU_7.out.below hb8)
  clear HSU_7
  have R1_8 := Lib.hid (R1_7.out.below hb8)
  clear R1_7
  have M_8 := Lib.hid (M_7.out.below hb8)
  clear M_7
  have R2_8 := Lib.hid (R2_7.out.below hb8)
  clear R2_7
  have R3_8 := Lib.hid (R3_7.out.below hb8)
  clear R3_7
  have CC_8 := Lib.hid (CC_7.out.below hb8)
  clear CC_7
  have W_8 := Lib.hid (W_7.out.below hb8)
  clear W_7
  have C1_8 := Lib.hid hs8
  clear hs8 ho8
  clear hb8 HC8 hbw7
  have hc9 := HRM.out w8 HV_8.out HU_8.out
  have HC9 := Lib.hid hc9
  clear hc9
  go_wp2_with fail
  refine HC9.out.mono ?_
  rintro e w9 ⟨v9, rfl, ho9, hb9⟩
  have hs9 := ho9.si
  obtain ⟨A9, c9, rfl, -⟩ := own_slice ho9
  have hbw9 := Below.step hbw8 hb9
  have HV_9 := Lib.hid (HV_8.out.below hb9)
  clear HV_8
  have HU_9 := Lib.hid (HU_8.out.below hb9)
  clear HU_8
  have HSV_9 := Lib.hid (HSV_8.out.below hb9)
  clear HSV_8
  have HSU_9 := Lib.hid (HSU_8.out.below hb9)
  clear HSU_8
  have R1_9 := Lib.hid (R1_8.out.below hb9)
  clear R1_8
  have M_9 := Lib.hid (M_8.out.below hb9)
  clear M_8
  have R2_9 := Lib.hid (R2_8.out.below hb9)
  clear R2_8
  have R3_9 := Lib.hid (R3_8.out.below hb9)
  clear R3_8
  have CC_9 := Lib.hid (CC_8.out.below hb9)
  clear CC_8
  have W_9 := Lib.hid (W_8.out.below hb9)
  clear W_8
  have C1_9 := Lib.hid (C1_8.out.below hb9)
  clear C1_8
  have RM_9 := Lib.hid hs9
  clear hs9 ho9
  clear hb9 HC9 hbw8
  have hc10 := HRT.out _ w9 RM_9.out
  have HC10 := Lib.hid hc10
  clear hc10
  go_wp2_with fail
  refine HC10.out.mono ?_
  rintro e w10 ⟨v10, rfl, ho10, hb10⟩
  have hs10 := ho10.si
  obtain ⟨A10, c10, rfl, -⟩ := own_slice ho10
  have hbw10 := Below.step hbw9 hb10
  have HV_10 := Lib.hid (HV_9.out.below hb10)
  clear HV_9
  have HU_10 := Lib.hid (HU_9.out.below hb10)
  clear HU_9
  have HSV_10 := Lib.hid (HSV_9.out.below hb10)
  clear HSV_9
  have HSU_10 := Lib.hid (HSU_9.out.below hb10)
  clear HSU_9
  have R1_10 := Lib.hid (R1_9.out.below hb10)
  clear R1_9
  have M_10 := Lib.hid (M_9.out.below hb10)
  clear M_9
  have R2_10 := Lib.hid (R2_9.out.below hb10)
  clear R2_9
  have R3_10 := Lib.hid (R3_9.out.below hb10)
  clear R3_9
  have CC_10 := Lib.hid (CC_9.out.below hb10)
  clear CC_9
  have W_10 := Lib.hid (W_9.out.below hb10)
  clear W_9
  have C1_10 := Lib.hid (C1_9.out.below hb10)
  clear C1_9
  have RM_10 := Lib.hid (RM_9.out.below hb10)
  clear RM_9
  have T1_10 := Lib.hid hs10
  clear hs10 ho10
  clear hb10 HC10 hbw9
  have hc11 := same_yes _ _ mt w10 C1_10.out T1_10.out (by have := L1.out; omega)
  have HC11 := Lib.hid hc11
  clear hc11
  go_wp2_with fail
  refine HC11.out.mono ?_
  rintro e w11 ⟨rfl, hb11⟩
  have hbw11 := Below.step hbw10 hb11
  have HV_11 := Lib.hid (HV_10.out.below hb11)
  clear HV_10
  have HU_11 := Lib.hid (HU_10.out.below hb11)
  clear HU_10
  have HSV_11 := Lib.hid (HSV_10.out.below hb11)
  clear HSV_10
  have HSU_11 := Lib.hid (HSU_10.out.below hb11)
  clear HSU_10
  have R1_11 := Lib.hid (R1_10.out.below hb11)
  clear R1_10
  have M_11 := Lib.hid (M_10.out.below hb11)
  clear M_10
  have R2_11 := Lib.hid (R2_10.out.below hb11)
  clear R2_10
  have R3_11 := Lib.hid (R3_10.out.below hb11)
  clear R3_10
  have CC_11 := Lib.hid (CC_10.out.below hb11)
  clear CC_10
  have W_11 := Lib.hid (W_10.out.below hb11)
  clear W_10
  have C1_11 := Lib.hid (C1_10.out.below hb11)
  clear C1_10
  have RM_11 := Lib.hid (RM_10.out.below hb11)
  clear RM_10
  have T1_11 := Lib.hid (T1_10.out.below hb11)
  clear T1_10
  clear hb11 HC11 hbw10
  have hc12 := HCA.out _ w11 CC_11.out
  have HC12 := Lib.hid hc12
  clear hc12
  go_wp2_with fail
  refine HC12.out.mono ?_
  rintro e w12 ⟨v12, rfl, ho12, hb12⟩
  have hs12 := ho12.si
  obtain ⟨A12, c12, rfl, -⟩ := own_slice ho12
  have hbw12 := Below.step hbw11 hb12
  have HV_12 := Lib.hid (HV_11.out.below hb12)
  clear HV_11
  have HU_12 := Lib.hid (HU_11.out.below hb12)
  clear HU_11
  have HSV_12 := Lib.hid (HSV_11.out.below hb12)
  clear HSV_11
  have HSU_12 := Lib.hid (HSU_11.out.below hb12)
  clear HSU_11
  have R1_12 := Lib.hid (R1_11.out.below hb12)
  clear R1_11
  have M_12 := Lib.hid (M_11.out.below hb12)
  clear M_11
  have R2_12 := Lib.hid (R2_11.out.below hb12)
  clear R2_11
  have R3_12 := Lib.hid (R3_11.out.below hb12)
  clear R3_11
  have CC_12 := Lib.hid (CC_11.out.below hb12)
  clear CC_11
  have W_12 := Lib.hid (W_11.out.below hb12)
  clear W_11
  have C1_12 := Lib.hid (C1_11.out.below hb12)
  clear C1_11
  have RM_12 := Lib.hid (RM_11.out.below hb12)
  clear RM_11
  have T1_12 := Lib.hid (T1_11.out.below hb12)
  clear T1_11
  have C2_12 := Lib.hid hs12
  clear hs12 ho12
  clear hb12 HC12 hbw11
  have hc13 := HRA.out _ w12 W_12.out
  have HC13 := Lib.hid hc13
  clear hc13
  go_wp2_with fail
  refine HC13.out.mono ?_
  rintro e w13 ⟨v13, rfl, ho13, hb13⟩
  have hs13 := ho13.si
  obtain ⟨A13, c13, rfl, -⟩ := own_slice ho13
  have hbw13 := Below.step hbw12 hb13
  have HV_13 := Lib.hid (HV_12.out.below hb13)
  clear HV_12
  have HU_13 := Lib.hid (HU_12.out.below hb13)
  clear HU_12
  have HSV_13 := Lib.hid (HSV_12.out.below hb13)
  clear HSV_12
  have HSU_13 := Lib.hid (HSU_12.out.below hb13)
  clear HSU_12
  have R1_13 := Lib.hid (R1_12.out.below hb13)
  clear R1_12
  have M_13 := Lib.hid (M_12.out.below hb13)
  clear M_12
  have R2_13 := Lib.hid (R2_12.out.below hb13)
  clear R2_12
  have R3_13 := Lib.hid (R3_12.out.below hb13)
  clear R3_12
  have CC_13 := Lib.hid (CC_12.out.below hb13)
  clear CC_12
  have W_13 := Lib.hid (W_12.out.below hb13)
  clear W_12
  have C1_13 := Lib.hid (C1_12.out.below hb13)
  clear C1_12
  have RM_13 := Lib.hid (RM_12.out.below hb13)
  clear RM_12
  have T1_13 := Lib.hid (T1_12.out.below hb13)
  clear T1_12
  have C2_13 := Lib.hid (C2_12.out.below hb13)
  clear C2_12
  have T2_13 := Lib.hid hs13
  clear hs13 ho13
  clear hb13 HC13 hbw12
  have hc14 := same_yes _ _ pt w13 C2_13.out T2_13.out (by have := L2.out; omega)
  have HC14 := Lib.hid hc14
  clear hc14
  go_wp2_with fail
  refine HC14.out.mono ?_
  rintro e w14 ⟨rfl, hb14⟩
  have hbw14 := Below.step hbw13 hb14
  have HV_14 := Lib.hid (HV_13.out.below hb14)
  clear HV_13
  have HU_14 := Lib.hid (HU_13.out.below hb14)
  clear HU_13
  have HSV_14 := Lib.hid (HSV_13.out.below hb14)
  clear HSV_13
  have HSU_14 := Lib.hid (HSU_13.out.below hb14)
  clear HSU_13
  have R1_14 := Lib.hid (R1_13.out.below hb14)
  clear R1_13
  have M_14 := Lib.hid (M_13.out.below hb14)
  clear M_13
  have R2_14 := Lib.hid (R2_13.out.below hb14)
  clear R2_13
  have R3_14 := Lib.hid (R3_13.out.below hb14)
  clear R3_13
  have CC_14 := Lib.hid (CC_13.out.below hb14)
  clear CC_13
  have W_14 := Lib.hid (W_13.out.below hb14)
  clear W_13
  have C1_14 := Lib.hid (C1_13.out.below hb14)
  clear C1_13
  have RM_14 := Lib.hid (RM_13.out.below hb14)
  clear RM_13
  have T1_14 := Lib.hid (T1_13.out.below hb14)
  clear T1_13
  have C2_14 := Lib.hid (C2_13.out.below hb14)
  clear C2_13
  have T2_14 := Lib.hid (T2_13.out.below hb14)
  clear T2_13
  clear hb14 HC14 hbw13
  have hc15 := HC3.out _ w14 M_14.out
  have HC15 := Lib.hid hc15
  clear hc15
  go_wp2_with fail
  refine HC15.out.mono ?_
  rintro e w15 ⟨v15, rfl, ho15, hb15⟩
  have hs15 := ho15.si
  obtain ⟨A15, c15, rfl, -⟩ := own_slice ho15
  have hbw15 := Below.step hbw14 hb15
  have HV_15 := Lib.hid (HV_14.out.below hb15)
  clear HV_14
  have HU_15 := Lib.hid (HU_14.out.below hb15)
  clear HU_14
  have HSV_15 := Lib.hid (HSV_14.out.below hb15)
  clear HSV_14
  have HSU_15 := Lib.hid (HSU_14.out.below hb15)
  clear HSU_14
  have R1_15 := Lib.hid (R1_14.out.below hb15)
  clear R1_14
  have M_15 := Lib.hid (M_14.out.below hb15)
  clear M_14
  have R2_15 := Lib.hid (R2_14.out.below hb15)
  clear R2_14
  have R3_15 := Lib.hid (R3_14.out.below hb15)
  clear R3_14
  have CC_15 := Lib.hid (CC_14.out.below hb15)
  clear CC_14
  have W_15 := Lib.hid (W_14.out.below hb15)
  clear W_14
  have C1_15 := Lib.hid (C1_14.out.below hb15)
  clear C1_14
  have RM_15 := Lib.hid (RM_14.out.below hb15)
  clear RM_14
  have T1_15 := Lib.hid (T1_14.out.below hb15)
  clear T1_14
  have C2_15 := Lib.hid (C2_14.out.below hb15)
  clear C2_14
  have T2_15 := Lib.hid (T2_14.out.below hb15)
  clear T2_14
  have C3_15 := Lib.hid hs15
  clear hs15 ho15
  clear hb15 HC15 hbw14
  have hc16 := HRM.out w15 HV_15.out HU_15.out
  have HC16 := Lib.hid hc16
  clear hc16
  go_wp2_with fail
  refine HC16.out.mono ?_
  rintro e w16 ⟨v16, rfl, ho16, hb16⟩
  have hs16 := ho16.si
  obtain ⟨A16, c16, rfl, -⟩ := own_slice ho16
  have hbw16 := Below.step hbw15 hb16
  have HV_16 := Lib.hid (HV_15.out.below hb16)
  clear HV_15
  have HU_16 := Lib.hid (HU_15.out.below hb16)
  clear HU_15
  have HSV_16 := Lib.hid (HSV_15.out.below hb16)
  clear HSV_15
  have HSU_16 := Lib.hid (HSU_15.out.below hb16)
  clear HSU_15
  have R1_16 := Lib.hid (R1_15.out.below hb16)
  clear R1_15
  have M_16 := Lib.hid (M_15.out.below hb16)
  clear M_15
  have R2_16 := Lib.hid (R2_15.out.below hb16)
  clear R2_15
  have R3_16 := Lib.hid (R3_15.out.below hb16)
  clear R3_15
  have CC_16 := Lib.hid (CC_15.out.below hb16)
  clear CC_15
  have W_16 := Lib.hid (W_15.out.below hb16)
  clear W_15
  have C1_16 := Lib.hid (C1_15.out.below hb16)
  clear C1_15
  have RM_16 := Lib.hid (RM_15.out.below hb16)
  clear RM_15
  have T1_16 := Lib.hid (T1_15.out.below hb16)
  clear T1_15
  have C2_16 := Lib.hid (C2_15.out.below hb16)
  clear C2_15
  have T2_16 := Lib.hid (T2_15.out.below hb16)
  clear T2_15
  have C3_16 := Lib.hid (C3_15.out.below hb16)
  clear C3_15
  have RM2_16 := Lib.hid hs16
  clear hs16 ho16
  clear hb16 HC16 hbw15
  have hc17 := same_yes _ _ ml w16 C3_16.out RM2_16.out (by have := L3.out; omega)
  have HC17 := Lib.hid hc17
  clear hc17
  go_wp2_with fail
  refine HC17.out.mono ?_
  rintro e w17 ⟨rfl, hb17⟩
  have hbw17 := Below.step hbw16 hb17
  have HV_17 := Lib.hid (HV_16.out.below hb17)
  clear HV_16
  have HU_17 := Lib.hid (HU_16.out.below hb17)
  clear HU_16
  have HSV_17 := Lib.hid (HSV_16.out.below hb17)
  clear HSV_16
  have HSU_17 := Lib.hid (HSU_16.out.below hb17)
  clear HSU_16
  have R1_17 := Lib.hid (R1_16.out.below hb17)
  clear R1_16
  have M_17 := Lib.hid (M_16.out.below hb17)
  clear M_16
  have R2_17 := Lib.hid (R2_16.out.below hb17)
  clear R2_16
  have R3_17 := Lib.hid (R3_16.out.below hb17)
  clear R3_16
  have CC_17 := Lib.hid (CC_16.out.below hb17)
  clear CC_16
  have W_17 := Lib.hid (W_16.out.below hb17)
  clear W_16
  have C1_17 := Lib.hid (C1_16.out.below hb17)
  clear C1_16
  have RM_17 := Lib.hid (RM_16.out.below hb17)
  clear RM_16
  have T1_17 := Lib.hid (T1_16.out.below hb17)
  clear T1_16
  have C2_17 := Lib.hid (C2_16.out.below hb17)
  clear C2_16
  have T2_17 := Lib.hid (T2_16.out.below hb17)
  clear T2_16
  have C3_17 := Lib.hid (C3_16.out.below hb17)
  clear C3_16
  have RM2_17 := Lib.hid (RM2_16.out.below hb17)
  clear RM2_16
  clear hb17 HC17 hbw16
  have HB := Lib.hid hbw17
  clear hbw17
  go_wp2
  go_ret
  exact ⟨rfl, HB.out⟩

theorem law5_any (v u : Value) (la lb : List Int) (m : Int) (w : World) (h : SI w v la) (h' : SI w u lb) (hn : la.length ≤ 9223372036854775807) (hn' : lb.length ≤ 9223372036854775807) (hm : 0 ≤ m ∧ m ≤ 255) (hv0 : ∀ n c, v = .slice none n c → c = 0) (hu0 : ∀ n c, u = .slice none n c → c = 0) :
    Calls Try.prog 5 #[v, u, .int .u8 m] w (RetV w (.bool true)) := by
  by_cases hl : la.length ≤ 100
  · by_cases hl' : lb.length ≤ 100
    · exact law5_yes v u la lb m w h h' hv0 hu0 hl hl' hm
    · obtain ⟨A, cap, rfl, hcap, -⟩ := h
      obtain ⟨A', cap', rfl, hcap', -⟩ := h'
      clear hv0 hu0
      generalize la.length = na at *
      generalize lb.length = nb at *
      go_enter Try.func5, Try.ntmps5
      go_wp2_with fail
      refine (alive_any w).mono ?_
      rintro e w1 ⟨rfl, hb1⟩
      go_wp2
      go_ret
      exact ⟨rfl, hb1⟩
  · obtain ⟨A, cap, rfl, hcap, -⟩ := h
    obtain ⟨A', cap', rfl, hcap', -⟩ := h'
    clear hv0 hu0
    generalize la.length = na at *
    generalize lb.length = nb at *
    go_enter Try.func5, Try.ntmps5
    go_wp2_with fail
    refine (alive_any w).mono ?_
    rintro e w1 ⟨rfl, hb1⟩
    go_wp2
    go_ret
    exact ⟨rfl, hb1⟩

end Go.Proofs.Ytndocahooajfgaa
